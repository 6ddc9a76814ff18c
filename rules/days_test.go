package rules

import (
	"slices"
	"testing"

	"fallow/days"
)

const day = days.Seconds

func TestDays(t *testing.T) {
	for _, c := range []struct {
		rule       string
		start, end int
		want       []days.Day
	}{
		{"FREQ=DAILY", 0, 2*day + 1, []days.Day{{1970, 1, 1}, {1970, 1, 2}, {1970, 1, 3}}},
		{"FREQ=DAILY", 0, 2 * day, []days.Day{{1970, 1, 1}, {1970, 1, 2}}},
		{"FREQ=DAILY", 1, 2*day + 1, []days.Day{{1970, 1, 1}, {1970, 1, 2}}},
		{"FREQ=DAILY", day - 1, 2 * day, []days.Day{{1970, 1, 1}, {1970, 1, 2}}},
		{"FREQ=DAILY", 5, 5, nil},
		{"FREQ=DAILY", 5, 0, nil},
		{"FREQ=DAILY;COUNT=2", 0, 99 * day, []days.Day{{1970, 1, 1}, {1970, 1, 2}}},
		{"FREQ=DAILY;UNTIL=19700102T000000Z", 0, 99 * day, []days.Day{{1970, 1, 1}, {1970, 1, 2}}},
		{"FREQ=DAILY;UNTIL=19700102T000000Z", 1, 99 * day, []days.Day{{1970, 1, 1}}},
		{"FREQ=WEEKLY;BYDAY=MO,TH;INTERVAL=2", 0, 16 * day, []days.Day{{1970, 1, 1}, {1970, 1, 12}, {1970, 1, 15}}},
		{"FREQ=MONTHLY;BYMONTHDAY=-1", 0, 60 * day, []days.Day{{1970, 1, 31}, {1970, 2, 28}}},
		{"FREQ=YEARLY", 364 * day, 800 * day, []days.Day{{1970, 12, 31}, {1971, 12, 31}}},
	} {
		rule := Read(c.rule)
		told := rule.Days(c.start, c.end)
		if got := slices.Collect(told); !slices.Equal(got, c.want) {
			t.Errorf("P5: %s: Days(%d, %d) = %v, want %v", c.rule, c.start, c.end, got, c.want)
		}
		if again := slices.Collect(told); !slices.Equal(again, c.want) {
			t.Errorf("P2: %s: the second time: %v, want %v", c.rule, again, c.want)
		}
	}
}

// What the start says for a rule is not kept in it.
func TestDaysOfOneRuleWithTwoStarts(t *testing.T) {
	rule := Read("FREQ=YEARLY;COUNT=1")
	for _, start := range []days.Day{{1970, 1, 1}, {1999, 12, 31}, {2024, 2, 29}} {
		if got := slices.Collect(rule.Days(start.Begin(), days.Day{2199, 1, 1}.Begin())); !slices.Equal(got, []days.Day{start}) {
			t.Errorf("P5: from %v on: %v", start, got)
		}
	}
}

func TestDaysAreToldOnlyAsFarAsAsked(t *testing.T) {
	told := 0
	for range Read("FREQ=MONTHLY;BYDAY=MO,TU").Days(0, days.Day{2199, 1, 1}.Begin()) {
		told++
		if told == 3 {
			break
		}
	}
	if told != 3 {
		t.Errorf("%d days were told", told)
	}
}

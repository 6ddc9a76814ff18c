package rules

import (
	"slices"
	"testing"

	"fallow/days"
)

const day = days.Seconds

func TestDays(t *testing.T) {
	for _, c := range []struct {
		rule       string
		start, end int
		want       []days.Day
	}{
		{"FREQ=DAILY", 0, 2*day + 1, []days.Day{{1970, 1, 1}, {1970, 1, 2}, {1970, 1, 3}}},
		{"FREQ=DAILY", 0, 2 * day, []days.Day{{1970, 1, 1}, {1970, 1, 2}}},
		{"FREQ=DAILY", 1, 2*day + 1, []days.Day{{1970, 1, 1}, {1970, 1, 2}}},
		{"FREQ=DAILY", day - 1, 2 * day, []days.Day{{1970, 1, 1}, {1970, 1, 2}}},
		{"FREQ=DAILY", 5, 5, nil},
		{"FREQ=DAILY", 5, 0, nil},
		{"FREQ=DAILY;COUNT=2", 0, 99 * day, []days.Day{{1970, 1, 1}, {1970, 1, 2}}},
		{"FREQ=DAILY;UNTIL=19700102T000000Z", 0, 99 * day, []days.Day{{1970, 1, 1}, {1970, 1, 2}}},
		{"FREQ=DAILY;UNTIL=19700102T000000Z", 1, 99 * day, []days.Day{{1970, 1, 1}}},
		{"FREQ=WEEKLY;BYDAY=MO,TH;INTERVAL=2", 0, 16 * day, []days.Day{{1970, 1, 1}, {1970, 1, 12}, {1970, 1, 15}}},
		{"FREQ=MONTHLY;BYMONTHDAY=-1", 0, 60 * day, []days.Day{{1970, 1, 31}, {1970, 2, 28}}},
		{"FREQ=YEARLY", 364 * day, 800 * day, []days.Day{{1970, 12, 31}, {1971, 12, 31}}},
	} {
		rule := Read(c.rule)
		told := rule.Days(c.start, 0, c.end)
		if got := slices.Collect(told); !slices.Equal(got, c.want) {
			t.Errorf("P5: %s: Days(%d, %d) = %v, want %v", c.rule, c.start, c.end, got, c.want)
		}
		if again := slices.Collect(told); !slices.Equal(again, c.want) {
			t.Errorf("P2: %s: the second time: %v, want %v", c.rule, again, c.want)
		}
	}
}

// What the start says for a rule is not kept in it.
func TestDaysOfOneRuleWithTwoStarts(t *testing.T) {
	rule := Read("FREQ=YEARLY;COUNT=1")
	for _, start := range []days.Day{{1970, 1, 1}, {1999, 12, 31}, {2024, 2, 29}} {
		if got := slices.Collect(rule.Days(start.Begin(), 0, days.Day{2199, 1, 1}.Begin())); !slices.Equal(got, []days.Day{start}) {
			t.Errorf("P5: from %v on: %v", start, got)
		}
	}
}

// What is told from a time on is what is told of all times, without those ahead of it.
func TestDaysFromATimeOn(t *testing.T) {
	const start, end = 40*day + 3600, 1500 * day
	for _, text := range []string{
		"FREQ=DAILY", "FREQ=DAILY;INTERVAL=7", "FREQ=DAILY;INTERVAL=100;COUNT=9", "FREQ=DAILY;BYDAY=SU;UNTIL=19710501T000000Z",
		"FREQ=WEEKLY", "FREQ=WEEKLY;INTERVAL=3;BYDAY=MO,TU,WE,TH,FR,SA,SU", "FREQ=WEEKLY;INTERVAL=2;BYDAY=SU,TU;WKST=WE", "FREQ=WEEKLY;BYDAY=MO,TU,SU;BYSETPOS=-1,2;WKST=SU", "FREQ=WEEKLY;COUNT=30;BYDAY=MO,FR",
		"FREQ=MONTHLY", "FREQ=MONTHLY;INTERVAL=5;BYMONTHDAY=1,-1", "FREQ=MONTHLY;BYDAY=MO,TU,WE,TH,FR;BYSETPOS=-1", "FREQ=MONTHLY;COUNT=20;BYDAY=2TU,-1SU",
		"FREQ=YEARLY", "FREQ=YEARLY;INTERVAL=2;BYMONTHDAY=1,31", "FREQ=YEARLY;BYDAY=53TH,-1FR,10MO", "FREQ=YEARLY;COUNT=3;BYMONTH=1,12",
	} {
		rule := Read(text)
		whole := slices.Collect(rule.Days(start, 0, end))
		if len(whole) < 3 {
			t.Errorf("P5: %s has the days %v: too few to tell", text, whole)
		}
		for from := start - 3*day; from < end+3*day; from += 5*day - 1000 {
			want := slices.DeleteFunc(slices.Clone(whole), func(told days.Day) bool { return told.Begin()+3600 < from })
			if got := slices.Collect(rule.Days(start, from, end)); !slices.Equal(got, want) {
				t.Fatalf("P8: %s: Days(%d, %d, %d) = %v, want %v", text, start, from, end, got, want)
			}
		}
	}
	rule := Read("FREQ=DAILY")
	for from, want := range map[int]int{-day: 2, start: 2, start + 1: 1, start + day: 1, start + day + 1: 0} {
		if got := slices.Collect(rule.Days(start, from, start+day+1)); len(got) != want {
			t.Errorf("P8: Days from %d on: %v, want %d", from, got, want)
		}
	}
}

func TestDaysAreToldOnlyAsFarAsAsked(t *testing.T) {
	told := 0
	for range Read("FREQ=MONTHLY;BYDAY=MO,TU").Days(0, 0, days.Day{2199, 1, 1}.Begin()) {
		told++
		if told == 3 {
			break
		}
	}
	if told != 3 {
		t.Errorf("%d days were told", told)
	}
}

package rules

import (
	"math"
	"reflect"
	"testing"

	"fallow/api"
	"fallow/giveup"
)

func read(text string) (Rule, api.Errno) {
	return giveup.Answer(func() Rule { return Read(text) })
}

func TestReadKeepsWhatTheRuleSays(t *testing.T) {
	for text, want := range map[string]Rule{
		"FREQ=DAILY":                                    {Frequency: Daily, Interval: 1, Until: math.MaxInt, text: "FREQ=DAILY"},
		"WKST=MO;INTERVAL=1;FREQ=WEEKLY":                {Frequency: Weekly, Interval: 1, Until: math.MaxInt, text: "FREQ=WEEKLY"},
		"BYMONTHDAY=-31,2;FREQ=MONTHLY;COUNT=3;WKST=SU": {Frequency: Monthly, Interval: 1, Count: 3, Until: math.MaxInt, MonthDays: []int{-31, 2}, WeekStart: 6, text: "FREQ=MONTHLY;COUNT=3;BYMONTHDAY=-31,2;WKST=SU"},
		"UNTIL=19700101T000000Z;BYSETPOS=-366,1;BYDAY=-53MO,TU,53SU;BYMONTH=12,1,12;INTERVAL=100;FREQ=YEARLY": {
			Frequency: Yearly, Interval: 100, Months: []int{12, 1, 12},
			Weekdays: []Weekday{{-53, 0}, {0, 1}, {53, 6}}, Places: []int{-366, 1},
			text: "FREQ=YEARLY;INTERVAL=100;UNTIL=19700101T000000Z;BYMONTH=12,1,12;BYDAY=-53MO,TU,53SU;BYSETPOS=-366,1",
		},
	} {
		got, errno := read(text)
		if errno != api.OK || !reflect.DeepEqual(got, want) {
			t.Errorf("P4: Read(%q) = %+v, %d, want %+v", text, got, errno, want)
		}
	}
}

func TestReadGivesUpWithErrRule(t *testing.T) {
	for _, text := range []string{"", "x", "FREQ", "FREQ=NEVER", "FREQ=DAILY;UNTIL=x"} {
		if got, errno := read(text); errno != api.ErrRule || !reflect.DeepEqual(got, Rule{}) {
			t.Errorf("P4: Read(%q) = %+v, %d, want ErrRule", text, got, errno)
		}
	}
}

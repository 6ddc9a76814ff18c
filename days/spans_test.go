package days

import (
	"slices"
	"testing"
)

func TestSpans(t *testing.T) {
	for _, c := range []struct {
		name string
		got  Span
		want Span
	}{
		{"Alone", Alone(Day{2024, 2, 28}), Span{Day{2024, 2, 28}, Day{2024, 2, 29}}},
		{"Alone", Alone(Day{2199, 12, 31}), Span{Day{2199, 12, 31}, Day{2200, 1, 1}}},
		{"Month", Month(2024, 1), Span{Day{2024, 1, 1}, Day{2024, 2, 1}}},
		{"Month", Month(2024, 12), Span{Day{2024, 12, 1}, Day{2025, 1, 1}}},
		{"Month", Month(2024, 13), Span{Day{2025, 1, 1}, Day{2025, 2, 1}}},
		{"Month", Month(2024, 36), Span{Day{2026, 12, 1}, Day{2027, 1, 1}}},
		{"Year", Year(2199), Span{Day{2199, 1, 1}, Day{2200, 1, 1}}},
		// 1 January 1970 is a Thursday.
		{"Week", Week(Day{1970, 1, 1}, 3), Span{Day{1970, 1, 1}, Day{1970, 1, 8}}},
		{"Week", Week(Day{1970, 1, 1}, 4), Span{Day{1969, 12, 26}, Day{1970, 1, 2}}},
		{"Week", Week(Day{1970, 1, 1}, 0), Span{Day{1969, 12, 29}, Day{1970, 1, 5}}},
		{"Week", Week(Day{1970, 1, 4}, 0), Span{Day{1969, 12, 29}, Day{1970, 1, 5}}},
		{"Week", Week(Day{1970, 1, 4}, 6), Span{Day{1970, 1, 4}, Day{1970, 1, 11}}},
	} {
		if c.got != c.want {
			t.Errorf("P5: %s: %v, want %v", c.name, c.got, c.want)
		}
	}
}

func TestAll(t *testing.T) {
	february := slices.Collect(Month(2024, 2).All())
	if len(february) != 29 || february[0] != (Day{2024, 2, 1}) || february[28] != (Day{2024, 2, 29}) {
		t.Errorf("P5: the days of February 2024: %v", february)
	}
	if got := len(slices.Collect(Year(2100).All())); got != 365 {
		t.Errorf("P5: 2100 has %d days, want 365", got)
	}
	for day := range Year(2024).All() {
		if day == (Day{2024, 1, 3}) {
			break
		}
	}
}

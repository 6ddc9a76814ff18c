package days

import (
	"testing"
	"time"
)

// The days around the years of the document are asked too: weeks may begin ahead of them and end behind them.
// All in all it is more than 400 years: then the leap years come again.
func TestDaysAreThoseOfTheGregorianCalendar(t *testing.T) {
	date := time.Date(1890, 1, 1, 0, 0, 0, 0, time.UTC)
	for date.Year() < 2310 {
		number := int(date.Unix() / 86400)
		day := Day{date.Year(), int(date.Month()), date.Day()}
		if got := day.Number(); got != number {
			t.Fatalf("P3: %v.Number() = %d, want %d", day, got, number)
		}
		if got := Of(number); got != day {
			t.Fatalf("P3: Of(%d) = %v, want %v", number, got, day)
		}
		if got, want := day.Weekday(), (int(date.Weekday())+6)%7; got != want {
			t.Fatalf("P5: %v.Weekday() = %d, want %d", day, got, want)
		}
		date = date.AddDate(0, 0, 1)
		if got, want := day.Next(), (Day{date.Year(), int(date.Month()), date.Day()}); got != want {
			t.Fatalf("P5: %v.Next() = %v, want %v", day, got, want)
		}
	}
}

func TestThere(t *testing.T) {
	for year := 1970; year <= 2199; year++ {
		for month := range 100 {
			for dayOfMonth := range 100 {
				date := time.Date(year, time.Month(month), dayOfMonth, 0, 0, 0, 0, time.UTC)
				want := date.Year() == year && int(date.Month()) == month && date.Day() == dayOfMonth
				day := Day{year, month, dayOfMonth}
				if day.There() != want {
					t.Fatalf("P3: %v.There() = %t", day, !want)
				}
			}
		}
	}
}

func TestDaysOfTimes(t *testing.T) {
	for time, want := range map[int]Day{0: {1970, 1, 1}, 86399: {1970, 1, 1}, 86400: {1970, 1, 2}, 7258118399: {2199, 12, 31}} {
		if got := OfTime(time); got != want {
			t.Errorf("P5: OfTime(%d) = %v, want %v", time, got, want)
		}
	}
	for day, want := range map[Day]int{{1970, 1, 1}: 0, {1970, 1, 2}: 86400, {1969, 12, 31}: -86400, {2024, 2, 29}: 1709164800} {
		if got := day.Begin(); got != want {
			t.Errorf("P5: %v.Begin() = %d, want %d", day, got, want)
		}
	}
}

func TestPlusAndTo(t *testing.T) {
	day := Day{2024, 2, 28}
	for count, want := range map[int]Day{0: day, 1: {2024, 2, 29}, 2: {2024, 3, 1}, 366: {2025, 2, 28}, -28: {2024, 1, 31}, -59: {2023, 12, 31}} {
		if got := day.Plus(count); got != want {
			t.Errorf("P5: %v.Plus(%d) = %v, want %v", day, count, got, want)
		}
		if got := day.To(want); got != count {
			t.Errorf("P5: %v.To(%v) = %d, want %d", day, want, got, count)
		}
	}
}

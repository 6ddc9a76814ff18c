package days

import (
	"testing"
	"time"
)

// The days around the years of the document are asked too: weeks may begin ahead of them and end behind them.
// All in all it is more than 400 years: then the leap years come again.
func TestDaysAreThoseOfTheGregorianCalendar(t *testing.T) {
	date := time.Date(1890, 1, 1, 0, 0, 0, 0, time.UTC)
	for date.Year() < 2310 {
		number := int(date.Unix() / 86400)
		day := Day{date.Year(), int(date.Month()), date.Day()}
		if got := day.Number(); got != number {
			t.Fatalf("P3: %v.Number() = %d, want %d", day, got, number)
		}
		if got := Of(number); got != day {
			t.Fatalf("P3: Of(%d) = %v, want %v", number, got, day)
		}
		date = date.AddDate(0, 0, 1)
	}
}

func TestThere(t *testing.T) {
	for year := 1970; year <= 2199; year++ {
		for month := range 100 {
			for dayOfMonth := range 100 {
				date := time.Date(year, time.Month(month), dayOfMonth, 0, 0, 0, 0, time.UTC)
				want := date.Year() == year && int(date.Month()) == month && date.Day() == dayOfMonth
				day := Day{year, month, dayOfMonth}
				if day.There() != want {
					t.Fatalf("P3: %v.There() = %t", day, !want)
				}
			}
		}
	}
}

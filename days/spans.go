package days

import "iter"

// Span is the days from First on, ahead of Behind.
type Span struct {
	First, Behind Day
}

// All tells the days of the span, in order.
func (s Span) All() iter.Seq[Day] {
	return func(yield func(day Day) bool) {
		for day := s.First; day != s.Behind; day = day.Next() {
			if !yield(day) {
				return
			}
		}
	}
}

// Alone is the span of one day.
func Alone(day Day) Span {
	return Span{First: day, Behind: day.Next()}
}

// Week is the week that has the day; it begins with the weekday start.
func Week(day Day, start int) Span {
	into := (day.Weekday() - start + Weekdays) % Weekdays
	first := day.Plus(-into)
	return Span{First: first, Behind: first.Plus(Weekdays)}
}

// Month is a month; behind the year's last one, the 12, those of the next years are counted on.
func Month(year int, month int) Span {
	return Span{First: monthBegin(year, month), Behind: monthBegin(year, month+1)}
}

// Year is a year.
func Year(year int) Span {
	return Span{First: Day{year, 1, 1}, Behind: Day{year + 1, 1, 1}}
}

func monthBegin(year int, month int) Day {
	return Day{year + (month-1)/12, (month-1)%12 + 1, 1}
}

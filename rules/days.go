package rules

import (
	"iter"
	"slices"

	"fallow/days"
)

// Days tells the days of the rule's times that lie ahead of end, in order, for an event with this start.
// They all have the start's time of day. As end is a time itself, none of them lies behind LastYear.
func (r Rule) Days(start int, end int) iter.Seq[days.Day] {
	first := days.OfTime(start)
	last := min(end-1, r.Until) - start%days.Seconds
	return func(yield func(day days.Day) bool) {
		counted := 0
		for day := range r.startingWith(first).chosen(first, last) {
			if first.To(day) < 0 {
				continue
			}
			if day.Begin() > last || !yield(day) {
				return
			}
			counted++
			if counted == r.Count {
				return
			}
		}
	}
}

// startingWith puts the start's day where neither BYMONTHDAY nor BYDAY says which days fit.
func (r Rule) startingWith(start days.Day) Rule {
	if len(r.MonthDays) > 0 || len(r.Weekdays) > 0 {
		return r
	}
	switch r.Frequency {
	case Weekly:
		r.Weekdays = []Weekday{{Day: start.Weekday()}}
	case Monthly:
		r.MonthDays = []int{start[2]}
	case Yearly:
		r.MonthDays = []int{start[2]}
		if len(r.Months) == 0 {
			r.Months = []int{start[1]}
		}
	}
	return r
}

// chosen tells the choices of the periods in turn, in order, as far as the periods do not begin behind the time last.
func (r Rule) chosen(start days.Day, last int) iter.Seq[days.Day] {
	return func(yield func(day days.Day) bool) {
		for distance := 0; ; distance += r.Interval {
			period := r.period(start, distance)
			if period.First.Begin() > last {
				return
			}
			for _, day := range r.choice(period) {
				if !yield(day) {
					return
				}
			}
		}
	}
}

// period is the one at this distance behind the one that has the start's day.
func (r Rule) period(start days.Day, distance int) days.Span {
	switch r.Frequency {
	case Daily:
		return days.Alone(start.Plus(distance))
	case Weekly:
		return days.Week(start.Plus(distance*days.Weekdays), r.WeekStart)
	case Monthly:
		return days.Month(start[0], start[1]+distance)
	default:
		return days.Year(start[0] + distance)
	}
}

func (r Rule) choice(period days.Span) []days.Day {
	var fitting []days.Day
	for day := range period.All() {
		if r.fits(day) {
			fitting = append(fitting, day)
		}
	}
	if len(r.Places) == 0 {
		return fitting
	}
	var placed []days.Day
	for place, day := range fitting {
		if slices.Contains(r.Places, place+1) || slices.Contains(r.Places, place-len(fitting)) {
			placed = append(placed, day)
		}
	}
	return placed
}

func (r Rule) fits(day days.Day) bool {
	return r.fitsMonth(day) && r.fitsMonthDay(day) && r.fitsWeekday(day)
}

func (r Rule) fitsMonth(day days.Day) bool {
	return len(r.Months) == 0 || slices.Contains(r.Months, day[1])
}

func (r Rule) fitsMonthDay(day days.Day) bool {
	return len(r.MonthDays) == 0 || slices.Contains(r.MonthDays, day[2]) || slices.Contains(r.MonthDays, -leftOfMonth(day))
}

// leftOfMonth counts the month's days from this one on.
func leftOfMonth(day days.Day) int {
	return day.To(days.Month(day[0], day[1]).Behind)
}

func (r Rule) fitsWeekday(day days.Day) bool {
	if len(r.Weekdays) == 0 {
		return true
	}
	own := day.Weekday()
	for _, weekday := range r.Weekdays {
		if weekday.Day == own && (weekday.Ordinal == 0 || r.hasPlace(day, weekday.Ordinal)) {
			return true
		}
	}
	return false
}

// hasPlace tells whether the day is the one with this ordinal, among those of its weekday in its month or year.
func (r Rule) hasPlace(day days.Day, ordinal int) bool {
	around := days.Month(day[0], day[1])
	if r.Frequency == Yearly && len(r.Months) == 0 {
		around = days.Year(day[0])
	}
	if ordinal > 0 {
		return around.First.To(day)/days.Weekdays == ordinal-1
	}
	last := around.Behind.Plus(-1)
	return day.To(last)/days.Weekdays == -ordinal-1
}

package rules

import (
	"iter"
	"slices"

	"fallow/days"
)

// Days tells the days of the rule's times from the time from on, ahead of to, in order, for an event with this start.
// They all have the start's time of day. As to is a time itself, none of them lies behind LastYear.
func (r Rule) Days(start int, from int, to int) iter.Seq[days.Day] {
	clock := start % days.Seconds
	last := min(to-1, r.Until) - clock
	return func(yield func(day days.Day) bool) {
		counted := 0
		for day := range r.startingWith(days.OfTime(start)).chosen(start, from, last) {
			begin := day.Begin()
			if begin < start-clock {
				continue
			}
			if begin > last {
				return
			}
			if begin >= from-clock && !yield(day) {
				return
			}
			counted++
			if counted == r.Count {
				return
			}
		}
	}
}

// startingWith puts the start's day where neither BYMONTHDAY nor BYDAY says which days fit.
func (r Rule) startingWith(start days.Day) Rule {
	if len(r.MonthDays) > 0 || len(r.Weekdays) > 0 {
		return r
	}
	switch r.Frequency {
	case Weekly:
		r.Weekdays = []Weekday{{Day: start.Weekday()}}
	case Monthly:
		r.MonthDays = []int{start[2]}
	case Yearly:
		r.MonthDays = []int{start[2]}
		if len(r.Months) == 0 {
			r.Months = []int{start[1]}
		}
	}
	return r
}

// chosen tells the choices of the periods in turn, in order, as far as the periods do not begin behind the time last.
// Of the periods that end ahead of the time from, it may leave out the first ones.
func (r Rule) chosen(start int, from int, last int) iter.Seq[days.Day] {
	return func(yield func(day days.Day) bool) {
		first := days.OfTime(start)
		for distance := r.firstDistance(start, from); ; distance += r.Interval {
			period := r.period(first, distance)
			if period.First.Begin() > last {
				return
			}
			for _, day := range r.choice(period) {
				if !yield(day) {
					return
				}
			}
		}
	}
}

// firstDistance is that of the first period in turn that has to be gone through for the times from the time from on.
func (r Rule) firstDistance(start int, from int) int {
	// COUNT counts the times from the start on, so none of them can be left out.
	if r.Count > 0 || from <= start {
		return 0
	}
	distance := r.distance(days.OfTime(start), days.OfTime(from))
	return distance - distance%r.Interval
}

// distance is that of the period that has this day, which is not ahead of the start's.
func (r Rule) distance(start days.Day, day days.Day) int {
	switch r.Frequency {
	case Daily:
		return start.To(day)
	case Weekly:
		return days.Week(start, r.WeekStart).First.To(day) / days.Weekdays
	case Monthly:
		return (day[0]-start[0])*12 + day[1] - start[1]
	default:
		return day[0] - start[0]
	}
}

// period is the one at this distance behind the one that has the start's day.
func (r Rule) period(start days.Day, distance int) days.Span {
	switch r.Frequency {
	case Daily:
		return days.Alone(start.Plus(distance))
	case Weekly:
		return days.Week(start.Plus(distance*days.Weekdays), r.WeekStart)
	case Monthly:
		return days.Month(start[0], start[1]+distance)
	default:
		return days.Year(start[0] + distance)
	}
}

func (r Rule) choice(period days.Span) []days.Day {
	var fitting []days.Day
	for day := range period.All() {
		if r.fits(day) {
			fitting = append(fitting, day)
		}
	}
	if len(r.Places) == 0 {
		return fitting
	}
	var placed []days.Day
	for place, day := range fitting {
		if slices.Contains(r.Places, place+1) || slices.Contains(r.Places, place-len(fitting)) {
			placed = append(placed, day)
		}
	}
	return placed
}

func (r Rule) fits(day days.Day) bool {
	return r.fitsMonth(day) && r.fitsMonthDay(day) && r.fitsWeekday(day)
}

func (r Rule) fitsMonth(day days.Day) bool {
	return len(r.Months) == 0 || slices.Contains(r.Months, day[1])
}

func (r Rule) fitsMonthDay(day days.Day) bool {
	return len(r.MonthDays) == 0 || slices.Contains(r.MonthDays, day[2]) || slices.Contains(r.MonthDays, -leftOfMonth(day))
}

// leftOfMonth counts the month's days from this one on.
func leftOfMonth(day days.Day) int {
	return day.To(days.Month(day[0], day[1]).Behind)
}

func (r Rule) fitsWeekday(day days.Day) bool {
	if len(r.Weekdays) == 0 {
		return true
	}
	own := day.Weekday()
	for _, weekday := range r.Weekdays {
		if weekday.Day == own && (weekday.Ordinal == 0 || r.hasPlace(day, weekday.Ordinal)) {
			return true
		}
	}
	return false
}

// hasPlace tells whether the day is the one with this ordinal, among those of its weekday in its month or year.
func (r Rule) hasPlace(day days.Day, ordinal int) bool {
	around := days.Month(day[0], day[1])
	if r.Frequency == Yearly && len(r.Months) == 0 {
		around = days.Year(day[0])
	}
	if ordinal > 0 {
		return around.First.To(day)/days.Weekdays == ordinal-1
	}
	last := around.Behind.Plus(-1)
	return day.To(last)/days.Weekdays == -ordinal-1
}

// Package days: the days of the Gregorian calendar, its weeks, months and years.
package days

// Day is a year, a month and a day of the month.
type Day [3]int

// Seconds are what a day has; a week has Weekdays.
const (
	Seconds  = 24 * 60 * 60
	Weekdays = 7
)

// Years begin with March here: the leap day is the last day of its year then, and moves no other one.
const (
	firstMonth = 3
	// yearsOfCycle: so many years, then the leap years come again.
	yearsOfCycle = 400
	daysOfCycle  = 365*yearsOfCycle + 97
	// daysOfFiveMonths: from March on, lengths of 31, 30, 31, 30, 31 days come again.
	daysOfFiveMonths = 153
	// daysAhead lie between the 1 March of the year 0 and the 1 January 1970.
	daysAhead = 719468
	// firstWeekday is that of the 1 March of the year 0, a Wednesday.
	firstWeekday = 2
)

// Number tells how many days behind the 1 January 1970 the day lies (its year is 1 or greater).
// A day that is not there has the number of another day.
func (d Day) Number() int {
	year, month := d[0], d[1]-firstMonth
	if month < 0 {
		year, month = year-1, month+12
	}
	return daysToYear(year) + daysToMonth(month) + d[2] - 1 - daysAhead
}

// Of is the day with this number.
func Of(number int) Day {
	left := number + daysAhead
	year := left * yearsOfCycle / daysOfCycle
	// The guess goes by the mean length of a year. A year begins less than a day behind what the mean tells, so the
	// guess is never one too many; but up to two days ahead of it, so it can be one too few.
	if left >= daysToYear(year+1) {
		year++
	}
	left -= daysToYear(year)
	month := (left*5 + 2) / daysOfFiveMonths
	left -= daysToMonth(month)
	month += firstMonth
	if month > 12 {
		year, month = year+1, month-12
	}
	return Day{year, month, left + 1}
}

// OfTime is the day on which a time lies.
func OfTime(time int) Day {
	return Of(time / Seconds)
}

// Begin is the time at which the day begins.
func (d Day) Begin() int {
	return d.Number() * Seconds
}

// Next is the day behind this one.
func (d Day) Next() Day {
	// Every month has 28 days, so only behind them the month may end. Days are gone through in great numbers.
	if d[2] < 28 {
		return Day{d[0], d[1], d[2] + 1}
	}
	return d.Plus(1)
}

// Plus is the day that lies so many days behind this one.
func (d Day) Plus(count int) Day {
	return Of(d.Number() + count)
}

// To tells how many days behind this one the other one lies.
func (d Day) To(other Day) int {
	return other.Number() - d.Number()
}

// Weekday is counted from Monday, 0, on.
func (d Day) Weekday() int {
	return (d.Number() + daysAhead + firstWeekday) % Weekdays
}

// There tells whether there is such a day.
func (d Day) There() bool {
	return Of(d.Number()) == d
}

// daysToYear: from the 1 March of the year 0 to that of this year.
func daysToYear(year int) int {
	return year*365 + year/4 - year/100 + year/400
}

// daysToMonth: from the 1 March on; month 0 is March.
func daysToMonth(month int) int {
	return (month*daysOfFiveMonths + 2) / 5
}

// Package rules: the rules by which events come again, and their days.
package rules

import (
	"math"
	"strings"

	"fallow/api"
	"fallow/giveup"
	"fallow/when"
	"fallow/words"
)

// Frequency is how long a rule's periods are.
type Frequency int

const (
	Daily Frequency = iota
	Weekly
	Monthly
	Yearly
)

// Weekday is a value of BYDAY. Weekdays are counted from Monday, 0, on.
type Weekday struct {
	Ordinal int // 0, if there is none; less than 0, if it counts from the end
	Day     int
}

// Rule is a rule that was read; of the lists, those that are not there are empty.
type Rule struct {
	Frequency Frequency
	Interval  int
	Count     int // 0, if there is none
	Until     int // behind all times, if there is none
	Months    []int
	MonthDays []int
	Weekdays  []Weekday
	Places    []int
	WeekStart int
	text      string
}

// The places of the parts, in the order in which they are printed.
const (
	freq = iota
	interval
	count
	until
	byMonth
	byMonthDay
	byDay
	bySetPos
	wkst
)

func partNames() []string {
	return []string{
		freq:       "FREQ",
		interval:   "INTERVAL",
		count:      "COUNT",
		until:      "UNTIL",
		byMonth:    "BYMONTH",
		byMonthDay: "BYMONTHDAY",
		byDay:      "BYDAY",
		bySetPos:   "BYSETPOS",
		wkst:       "WKST",
	}
}

// Read reads a rule; it gives up with ErrRule, if it is none.
func Read(text string) Rule {
	parts := words.Fields(strings.Split(text, ";"), "=", partNames(), api.ErrRule)
	giveup.Unless(!(parts[count].There && parts[until].There), api.ErrRule)
	rule := Rule{
		Frequency: readFrequency(parts[freq]),
		Interval:  words.NumberWithin(parts[interval].Or("1"), 1, api.MaxInterval, api.ErrRule),
		Count:     readCount(parts[count]),
		Until:     readUntil(parts[until]),
		Months:    words.List(parts[byMonth], api.ErrRule, readMonth),
		MonthDays: words.List(parts[byMonthDay], api.ErrRule, readMonthDay),
		Weekdays:  words.List(parts[byDay], api.ErrRule, readWeekday),
		Places:    words.List(parts[bySetPos], api.ErrRule, readPlace),
		WeekStart: readDayName(parts[wkst].Or("MO")),
		text:      printed(parts),
	}
	giveup.Unless(rule.partsAgree(), api.ErrRule)
	return rule
}

// Text is the rule as it is printed.
func (r Rule) Text() string {
	return r.text
}

// partsAgree tells whether none of the parts is there that FREQ or another part rules out.
func (r Rule) partsAgree() bool {
	ordinals := (r.Frequency == Monthly || r.Frequency == Yearly) && len(r.MonthDays) == 0
	if !ordinals && r.hasOrdinal() {
		return false
	}
	if r.Frequency == Weekly && len(r.MonthDays) > 0 {
		return false
	}
	narrowed := len(r.Months) > 0 || len(r.MonthDays) > 0 || len(r.Weekdays) > 0
	return narrowed || len(r.Places) == 0
}

func (r Rule) hasOrdinal() bool {
	for _, weekday := range r.Weekdays {
		if weekday.Ordinal != 0 {
			return true
		}
	}
	return false
}

// printed takes the values as they stand: each has one way only in which it can be written.
func printed(parts []words.Field) string {
	var texts []string
	for place, name := range partNames() {
		text := name + "=" + parts[place].Value
		if parts[place].There && text != "INTERVAL=1" && text != "WKST=MO" {
			texts = append(texts, text)
		}
	}
	return strings.Join(texts, ";")
}

func readFrequency(part words.Field) Frequency {
	return Frequency(words.Choice(part.Value, []string{
		Daily:   "DAILY",
		Weekly:  "WEEKLY",
		Monthly: "MONTHLY",
		Yearly:  "YEARLY",
	}, api.ErrRule))
}

func readCount(part words.Field) int {
	if !part.There {
		return 0
	}
	return words.NumberWithin(part.Value, 1, api.MaxCount, api.ErrRule)
}

func readUntil(part words.Field) int {
	if !part.There {
		return math.MaxInt
	}
	time, errno := when.Parse(part.Value)
	giveup.Unless(errno == api.OK, api.ErrRule)
	return time
}

func readMonth(text string) int {
	return words.NumberWithin(text, 1, 12, api.ErrRule)
}

func readMonthDay(text string) int {
	return words.Signed(text, 31, api.ErrRule)
}

func readPlace(text string) int {
	return words.Signed(text, 366, api.ErrRule)
}

func readWeekday(text string) Weekday {
	nameAt := max(len(text)-len("MO"), 0)
	weekday := Weekday{Day: readDayName(text[nameAt:])}
	if nameAt > 0 {
		weekday.Ordinal = words.Signed(text[:nameAt], 53, api.ErrRule)
	}
	return weekday
}

func readDayName(text string) int {
	return words.Choice(text, []string{"MO", "TU", "WE", "TH", "FR", "SA", "SU"}, api.ErrRule)
}

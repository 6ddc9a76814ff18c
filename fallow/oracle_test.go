package fallow

import (
	"math/rand"
	"slices"
	"strconv"
	"strings"
	"testing"
	"time"

	"fallow/api"
)

// The oracle works instances out from the document's words alone: it goes through a table of days that knows of each
// day what the words ask, by counting, and leaves nothing out that the program leaves out to be fast.

// seen is a day of the table. What is counted from the back is less than 0.
type seen struct {
	year, month, day, left int
	weekday                string
	ofMonth, ofYear        [2]int // the how manieth of its weekday, from the front and from the back
}

const tableBegin = -800 // days behind 1970

// table has the days of the years from 1967 to 2202.
func table() []seen {
	var days []seen
	for date := time.Unix(tableBegin*86400, 0).UTC(); date.Year() < 2203; date = date.AddDate(0, 0, 1) {
		weekday := strings.ToUpper(date.Weekday().String()[:2])
		days = append(days, seen{year: date.Year(), month: int(date.Month()), day: date.Day(), weekday: weekday})
	}
	count(days, 0, 1)
	slices.Reverse(days)
	count(days, 1, -1)
	slices.Reverse(days)
	return days
}

// count fills what is counted from one side.
func count(days []seen, side int, step int) {
	type key struct {
		year, month int
		weekday     string
	}
	counts := map[key]int{}
	for i := range days {
		day := &days[i]
		for place, key := range []key{{day.year, day.month, day.weekday}, {day.year, 0, day.weekday}, {day.year, day.month, ""}} {
			counts[key] += step
			switch {
			case place == 0:
				day.ofMonth[side] = counts[key]
			case place == 1:
				day.ofYear[side] = counts[key]
			case side == 1:
				day.left = counts[key]
			}
		}
	}
}

type oracle struct {
	days  []seen
	start int
	parts map[string][]string
}

func newOracle(days []seen, start int, rule string) oracle {
	parts := map[string][]string{"INTERVAL": {"1"}, "WKST": {"MO"}}
	for part := range strings.SplitSeq(rule, ";") {
		name, value, _ := strings.Cut(part, "=")
		parts[name] = strings.Split(value, ",")
	}
	return oracle{days: days, start: start, parts: parts}
}

func (o oracle) listed(name string, number int) bool {
	return slices.Contains(o.parts[name], strconv.Itoa(number))
}

// period numbers the periods: the same number is the same period.
func (o oracle) period(place int) int {
	day := o.days[place]
	switch o.parts["FREQ"][0] {
	case "DAILY":
		return place
	case "WEEKLY":
		first := place
		for o.days[first].weekday != o.parts["WKST"][0] {
			first--
		}
		return (first + 7) / 7
	case "MONTHLY":
		return day.year*12 + day.month
	}
	return day.year
}

func (o oracle) fits(day seen) bool {
	start := o.days[o.start/86400-tableBegin]
	byMonth, byMonthDay, byDay := o.parts["BYMONTH"], o.parts["BYMONTHDAY"], o.parts["BYDAY"]
	freq := o.parts["FREQ"][0]
	if byMonth != nil && !o.listed("BYMONTH", day.month) {
		return false
	}
	if byMonthDay != nil && !o.listed("BYMONTHDAY", day.day) && !o.listed("BYMONTHDAY", day.left) {
		return false
	}
	if byDay != nil {
		ordinals := day.ofMonth
		if freq == "YEARLY" && byMonth == nil {
			ordinals = day.ofYear
		}
		if !slices.Contains(byDay, day.weekday) &&
			!slices.Contains(byDay, strconv.Itoa(ordinals[0])+day.weekday) &&
			!slices.Contains(byDay, strconv.Itoa(ordinals[1])+day.weekday) {
			return false
		}
	}
	if byMonthDay != nil || byDay != nil {
		return true
	}
	switch freq {
	case "WEEKLY":
		return day.weekday == start.weekday
	case "MONTHLY":
		return day.day == start.day
	case "YEARLY":
		return day.day == start.day && (byMonth != nil || day.month == start.month)
	}
	return true
}

// times are the rule's times ahead of to.
func (o oracle) times(t *testing.T, to int) []int {
	startPlace := o.start/86400 - tableBegin
	interval, _ := strconv.Atoi(o.parts["INTERVAL"][0])
	choices := map[int][]int{}
	var periods []int
	// A period has at most 366 days: that far outside of start and to its days can lie.
	for place := startPlace - 366; place < to/86400-tableBegin+366; place++ {
		period := o.period(place)
		if (period-o.period(startPlace))%interval != 0 || !o.fits(o.days[place]) {
			continue
		}
		if len(choices[period]) == 0 {
			periods = append(periods, period)
		}
		choices[period] = append(choices[period], place)
	}
	var times []int
	for _, period := range periods {
		for i, place := range choices[period] {
			if o.parts["BYSETPOS"] == nil || o.listed("BYSETPOS", i+1) || o.listed("BYSETPOS", i-len(choices[period])) {
				times = append(times, (place+tableBegin)*86400+o.start%86400)
			}
		}
	}
	return o.cut(t, times, to)
}

func (o oracle) cut(t *testing.T, times []int, to int) []int {
	var left []int
	for _, time := range times {
		if time < o.start || time > lastTime || time >= to {
			continue
		}
		if o.parts["UNTIL"] != nil && time > at(t, o.parts["UNTIL"][0]) {
			continue
		}
		if o.parts["COUNT"] != nil && strconv.Itoa(len(left)) == o.parts["COUNT"][0] {
			continue
		}
		left = append(left, time)
	}
	return left
}

// dice makes events by chance, the same ones at each run.
type dice struct {
	*rand.Rand
}

func (d dice) list(longest int, value func() string) string {
	values := make([]string, 1+d.Intn(longest))
	for i := range values {
		values[i] = value()
	}
	return strings.Join(values, ",")
}

func (d dice) sign() string {
	return []string{"", "-"}[d.Intn(2)]
}

func (d dice) weekday() string {
	return []string{"MO", "TU", "WE", "TH", "FR", "SA", "SU"}[d.Intn(7)]
}

func (d dice) ordinal() string {
	return d.sign() + strconv.Itoa([]int{1, 2, 3, 4, 5, 6, 1 + d.Intn(53), 52, 53}[d.Intn(9)])
}

// rule makes a rule for a start at this time.
func (d dice) rule(t *testing.T, start int) string {
	freq := []string{"DAILY", "WEEKLY", "MONTHLY", "YEARLY"}[d.Intn(4)]
	parts := []string{"FREQ=" + freq}
	add := func(name string, value string) { parts = append(parts, name+"="+value) }
	byMonth, byMonthDay, byDay := d.Intn(3) == 0, d.Intn(3) == 0 && freq != "WEEKLY", d.Intn(2) == 0
	if byMonth {
		add("BYMONTH", d.list(6, func() string { return strconv.Itoa(1 + d.Intn(12)) }))
	}
	if byMonthDay {
		add("BYMONTHDAY", d.list(8, func() string { return d.sign() + strconv.Itoa(1+d.Intn(31)) }))
	}
	if byDay {
		ordinals := !byMonthDay && (freq == "MONTHLY" || freq == "YEARLY") && d.Intn(3) > 0
		add("BYDAY", d.list(7, func() string {
			if ordinals && d.Intn(4) > 0 {
				return d.ordinal() + d.weekday()
			}
			return d.weekday()
		}))
	}
	if (byMonth || byMonthDay || byDay) && d.Intn(2) == 0 {
		most := map[string]int{"DAILY": 2, "WEEKLY": 7, "MONTHLY": 12, "YEARLY": 60}[freq]
		add("BYSETPOS", d.list(6, func() string { return d.sign() + strconv.Itoa(1+d.Intn(most)) }))
	}
	if d.Intn(2) == 0 {
		add("INTERVAL", strconv.Itoa([]int{1, 2, 3, 4, 7, 12, 100, 1 + d.Intn(100)}[d.Intn(8)]))
	}
	if d.Intn(2) == 0 {
		add("WKST", d.weekday())
	}
	switch d.Intn(4) {
	case 0:
		add("COUNT", strconv.Itoa(1+d.Intn(20)))
	case 1:
		add("UNTIL", printed(t, d.near(start+d.Intn(300)*86400)))
	}
	d.Shuffle(len(parts), func(i, j int) { parts[i], parts[j] = parts[j], parts[i] })
	return strings.Join(parts, ";")
}

// near is a time at most a second away.
func (d dice) near(time int) int {
	return max(0, min(lastTime, time+d.Intn(3)-1))
}

// times makes EXDATE's or RDATE's: about the start, most with its time of day.
func (d dice) times(t *testing.T, start int) []int {
	var times []int
	for range d.Intn(api.MaxList + 1) {
		time := start + (d.Intn(70)-10)*86400
		if d.Intn(4) == 0 {
			time = d.near(time)
		}
		times = append(times, max(0, min(lastTime, time)))
	}
	return times
}

func (d dice) start() int {
	const day = 86400
	switch d.Intn(5) {
	case 0:
		return d.Intn(8 * day)
	case 1:
		return lastTime - d.Intn(400*day)
	case 2: // around the 29 February 2024
		return 1709164800 + (d.Intn(5)-2)*day + d.Intn(day)
	}
	return d.Intn(lastTime)
}

func timesLine(t *testing.T, name string, times []int) []string {
	if len(times) == 0 {
		return nil
	}
	var texts []string
	for _, time := range times {
		texts = append(texts, printed(t, time))
	}
	return []string{name + ":" + strings.Join(texts, ",")}
}

// wanted tells which of the begins are instances in the window.
func wanted(times []int, extra []int, except []int, start int, length int, from int, to int) []api.Span {
	var spans []api.Span
	all := append(slices.Clone(times), extra...)
	slices.Sort(all)
	for _, begin := range slices.Compact(all) {
		if start <= begin && begin < to && begin+length > from && !slices.Contains(except, begin) {
			spans = append(spans, api.Span{Begin: begin, End: begin + length})
		}
	}
	return spans
}

// made is an event that was made by chance, and all its begins ahead of a time, as the document's words have them.
type made struct {
	text   string
	name   string
	kind   byte // B or T, or F, if nobody is busy by it
	length int
	start  int
	rule   string
	except []int
	extra  []int
}

func (d dice) made(t *testing.T, name string, start int) made {
	m := made{name: name, start: start, rule: d.rule(t, start), except: d.times(t, start), extra: d.times(t, start)}
	m.length = 1 + d.Intn([]int{10, 86400, api.MaxLength}[d.Intn(3)])
	status := d.Intn(7)
	m.kind = "BBBTTFF"[status]
	lines := []string{"UID:" + name, "DTSTART:" + printed(t, start), "DURATION:PT" + strconv.Itoa(m.length) + "S", "RRULE:" + m.rule}
	lines = slices.Concat(lines, timesLine(t, "EXDATE", m.except), timesLine(t, "RDATE", m.extra),
		[][]string{nil, {"STATUS:CONFIRMED"}, {"TRANSP:OPAQUE"}, {"STATUS:TENTATIVE"}, {"STATUS:TENTATIVE", "TRANSP:OPAQUE"}, {"STATUS:CANCELLED"}, {"TRANSP:TRANSPARENT"}}[status])
	m.text = event(lines...)
	return m
}

// ruled is the event with another rule.
func (m made) ruled(rule string) made {
	m.text = strings.Replace(m.text, "RRULE:"+m.rule+"\r\n", "RRULE:"+rule+"\r\n", 1)
	m.rule = rule
	return m
}

// instances are those that overlap the window.
func (m made) instances(t *testing.T, days []seen, from int, to int) []api.Span {
	times := newOracle(days, m.start, m.rule).times(t, to)
	return wanted(times, m.extra, m.except, m.start, m.length, from, to)
}

func TestInstancesAreThoseOfTheDocumentsWords(t *testing.T) {
	days := table()
	d := dice{rand.New(rand.NewSource(5))}
	told := 0
	for range 2000 {
		m := d.made(t, "a1", d.start())
		to := min(lastTime, m.start+1+d.Intn(86400*[]int{30, 400, 2500}[d.Intn(3)]))
		from := []int{0, d.Intn(to), max(0, to-1-d.Intn(86400*40)), d.near(m.start)}[d.Intn(4)]
		if from >= to {
			continue
		}
		want := m.instances(t, days, from, to)
		told += len(want)
		answers(t, m.text, from, to, want)
		s := New()
		puts(t, s, "c", m.text, api.OK)
		// Whether the index is filled at once or piece by piece, all of it goes with the event.
		for range d.Intn(4) {
			_ = s.Horizon(to - d.Intn(to+1-min(m.start, to)))
		}
		tells(t, s, "c", from, to, painted(from, to, map[byte][]api.Span{m.kind: want}))
		drops(t, s, "c", "a1", api.OK)
		cached(t, s, 0)
		if t.Failed() {
			return
		}
	}
	if told < 10000 {
		t.Errorf("the events had %d instances in all: too few to tell", told)
	}
}

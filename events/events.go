// Package events: events, as they are read and printed, and their instances.
package events

import (
	"slices"
	"strconv"
	"strings"

	"fallow/api"
	"fallow/giveup"
	"fallow/rules"
	"fallow/when"
	"fallow/words"
)

// Status is how sure it is that an event takes place.
type Status int

const (
	Confirmed Status = iota
	Tentative
	Cancelled
)

// Event is an event that was read.
type Event struct {
	UID         string
	Start       int
	Length      int
	HasRule     bool
	Rule        rules.Rule // only if HasRule holds
	Except      []int      // EXDATE's times, in order, each once
	Extra       []int      // RDATE's times, in order, each once
	Transparent bool
	Status      Status
}

const (
	beginLine = "BEGIN:VEVENT"
	endLine   = "END:VEVENT"
)

// The places of the properties.
const (
	uid = iota
	dtStart
	dtEnd
	duration
	rRule
	exDate
	rDate
	transp
	status
)

func propertyNames() []string {
	return []string{
		uid:      "UID",
		dtStart:  "DTSTART",
		dtEnd:    "DTEND",
		duration: "DURATION",
		rRule:    "RRULE",
		exDate:   "EXDATE",
		rDate:    "RDATE",
		transp:   "TRANSP",
		status:   "STATUS",
	}
}

func statusNames() []string {
	return []string{
		Confirmed: "CONFIRMED",
		Tentative: "TENTATIVE",
		Cancelled: "CANCELLED",
	}
}

// Read reads an event; it gives up with ErrText, ErrTime or ErrRule, if it is none.
// The errors of one kind are all looked for ahead of those of the next kind: the first kind that applies is told.
func Read(text string) Event {
	properties := readProperties(text)
	event := Event{
		UID:         words.Name(properties[uid].Value, api.ErrText),
		Transparent: readTransparent(properties[transp]),
		Status:      readStatus(properties[status]),
	}
	event.Start = readTime(properties[dtStart].Value)
	event.Length = readLength(event.Start, properties[dtEnd], properties[duration])
	event.Except = readTimes(properties[exDate])
	event.Extra = readTimes(properties[rDate])
	event.HasRule = properties[rRule].There
	if event.HasRule {
		event.Rule = rules.Read(properties[rRule].Value)
	}
	return event
}

// Text is the event as it is printed.
func (e Event) Text() string {
	lines := []string{
		beginLine,
		"UID:" + e.UID,
		"DTSTART:" + timeText(e.Start),
		"DURATION:PT" + strconv.Itoa(e.Length) + "S",
	}
	if e.HasRule {
		lines = append(lines, "RRULE:"+e.Rule.Text())
	}
	if len(e.Except) > 0 {
		lines = append(lines, "EXDATE:"+timesText(e.Except))
	}
	if len(e.Extra) > 0 {
		lines = append(lines, "RDATE:"+timesText(e.Extra))
	}
	if e.Transparent {
		lines = append(lines, "TRANSP:TRANSPARENT")
	}
	if e.Status != Confirmed {
		lines = append(lines, "STATUS:"+statusNames()[e.Status])
	}
	return words.Text(append(lines, endLine))
}

func readProperties(text string) []words.Field {
	giveup.Unless(len(text) <= api.MaxText, api.ErrText)
	lines := words.Lines(text, api.ErrText)
	last := len(lines) - 1
	giveup.Unless(last > 0 && lines[0] == beginLine && lines[last] == endLine, api.ErrText)
	properties := words.Fields(lines[1:last], ":", propertyNames(), api.ErrText)
	giveup.Unless(properties[uid].There && properties[dtStart].There, api.ErrText)
	giveup.Unless(properties[dtEnd].There != properties[duration].There, api.ErrText)
	return properties
}

func readTransparent(property words.Field) bool {
	return words.Choice(property.Or("OPAQUE"), []string{"OPAQUE", "TRANSPARENT"}, api.ErrText) == 1
}

func readStatus(property words.Field) Status {
	return Status(words.Choice(property.Or("CONFIRMED"), statusNames(), api.ErrText))
}

func readTime(text string) int {
	time, errno := when.Parse(text)
	giveup.Unless(errno == api.OK, errno)
	return time
}

func readTimes(property words.Field) []int {
	times := words.List(property, api.ErrTime, readTime)
	slices.Sort(times)
	return slices.Compact(times)
}

func readLength(start int, end words.Field, length words.Field) int {
	seconds := 0
	if end.There {
		seconds = readTime(end.Value) - start
	} else {
		seconds = readDuration(length.Value)
	}
	giveup.Unless(1 <= seconds && seconds <= api.MaxLength, api.ErrTime)
	return seconds
}

func readDuration(text string) int {
	seconds, errno := when.Length(text)
	giveup.Unless(errno == api.OK, errno)
	return seconds
}

// timeText leaves the error out: what an event keeps was read, so it is a time.
func timeText(time int) string {
	text, _ := when.Print(time)
	return text
}

func timesText(times []int) string {
	texts := make([]string, len(times))
	for i, time := range times {
		texts[i] = timeText(time)
	}
	return strings.Join(texts, ",")
}

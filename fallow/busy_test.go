package fallow

import (
	"math"
	"slices"
	"strconv"
	"strings"
	"testing"

	"fallow/api"
)

// freeBusy is what Busy tells of a window: want has a letter, B or T, and two times for each line.
func freeBusy(t *testing.T, from int, to int, want string) string {
	t.Helper()
	lines := []string{"BEGIN:VFREEBUSY", "DTSTART:" + printed(t, from), "DTEND:" + printed(t, to)}
	for _, text := range strings.Fields(want) {
		kind, begin, end := spanOf(t, text)
		name := map[byte]string{'B': "BUSY", 'T': "BUSY-TENTATIVE"}[kind]
		lines = append(lines, "FREEBUSY;FBTYPE="+name+":"+printed(t, begin)+"/"+printed(t, end))
	}
	return strings.Join(append(lines, "END:VFREEBUSY", ""), "\r\n")
}

// span is one of what freeBusy is given; spanOf reads it.
func span(kind byte, begin int, end int) string {
	return string(kind) + strconv.Itoa(begin) + "-" + strconv.Itoa(end)
}

func spanOf(t *testing.T, text string) (kind byte, begin int, end int) {
	t.Helper()
	first, second, _ := strings.Cut(text[1:], "-")
	begin, err := strconv.Atoi(first)
	end, otherErr := strconv.Atoi(second)
	if err != nil || otherErr != nil {
		t.Fatalf("%q is no span", text)
	}
	return text[0], begin, end
}

// tells asks for calendars, with blanks between, in every order that begins with another one.
func tells(t *testing.T, s *Server, names string, from int, to int, want string) {
	t.Helper()
	asked := strings.Fields(names)
	for range asked {
		got, errno := s.Busy(asked, from, to)
		if errno != api.OK || got != freeBusy(t, from, to, want) {
			t.Errorf("P8: Busy(%q, %d, %d) = %q, %d, want %s", asked, from, to, got, errno, want)
		}
		asked = append(asked[1:], asked[0])
	}
}

func tellsErrno(t *testing.T, s *Server, names []string, from int, to int, want api.Errno) {
	t.Helper()
	if got, errno := s.Busy(names, from, to); got != "" || errno != want {
		t.Errorf("P8: Busy(%q, %d, %d) = %q, %d, want nothing and %d", names, from, to, got, errno, want)
	}
}

func TestDocumentsExampleOfBusy(t *testing.T) {
	s := New()
	puts(t, s, "c", event("UID:a", "DTSTART:20240102T000000Z", "DTEND:20240102T010000Z"), api.OK)
	puts(t, s, "c", event("UID:b", "DTSTART:20240102T003000Z", "DTEND:20240102T020000Z", "STATUS:TENTATIVE"), api.OK)
	const want = "BEGIN:VFREEBUSY\r\nDTSTART:20240102T003000Z\r\nDTEND:20240103T000000Z\r\n" +
		"FREEBUSY;FBTYPE=BUSY:20240102T003000Z/20240102T010000Z\r\n" +
		"FREEBUSY;FBTYPE=BUSY-TENTATIVE:20240102T010000Z/20240102T020000Z\r\n" +
		"END:VFREEBUSY\r\n"
	if got, errno := s.Busy([]string{"c"}, at(t, "20240102T003000Z"), at(t, "20240103")); got != want || errno != api.OK {
		t.Errorf("P8: Busy = %q, %d, want %q", got, errno, want)
	}
}

func TestBusyWindows(t *testing.T) {
	s := New()
	puts(t, s, "c", lasting(t, "a", 10, 20), api.OK)
	puts(t, s, "c", lasting(t, "b", 30, 40, "STATUS:TENTATIVE"), api.OK)
	for _, c := range []struct {
		from, to int
		want     string
	}{
		{0, 100, "B10-20 T30-40"},
		{10, 40, "B10-20 T30-40"},
		{11, 39, "B11-20 T30-39"},
		{0, 10, ""},
		{0, 11, "B10-11"},
		{9, 10, ""},
		{10, 11, "B10-11"},
		{14, 16, "B14-16"},
		{19, 20, "B19-20"},
		{19, 31, "B19-20 T30-31"},
		{20, 21, ""},
		{20, 30, ""},
		{29, 30, ""},
		{33, 34, "T33-34"},
		{39, 41, "T39-40"},
		{40, 41, ""},
		{40, lastTime, ""},
		{0, lastTime, "B10-20 T30-40"},
	} {
		tells(t, s, "c", c.from, c.to, c.want)
	}
}

// Each case: the spans of events, and what comes of them.
func TestBusySpansOfSeveralEvents(t *testing.T) {
	for given, want := range map[string]string{
		"": "",
		// Touching, overlapping, one inside another, twice the same.
		"B10-20 B20-30":               "B10-30",
		"B10-20 B21-30":               "B10-20 B21-30",
		"B10-20 B15-30":               "B10-30",
		"B10-30 B15-20":               "B10-30",
		"B10-30 B10-20":               "B10-30",
		"B10-30 B20-30":               "B10-30",
		"B10-20 B10-20":               "B10-20",
		"B10-20 B30-40 B15-35":        "B10-40",
		"B10-20 B30-40 B20-30":        "B10-40",
		"B10-11 B11-12 B13-14":        "B10-12 B13-14",
		"T10-20 T20-30":               "T10-30",
		"T10-20 T21-30":               "T10-20 T21-30",
		"T10-20 T15-30":               "T10-30",
		"T10-30 T15-20":               "T10-30",
		"T10-20 T10-20":               "T10-20",
		"T10-20 T30-40 T20-30 T40-41": "T10-41",
		// BUSY and TENTATIVE.
		"B10-20 T20-30":                      "B10-20 T20-30",
		"T10-20 B20-30":                      "T10-20 B20-30",
		"B10-20 T15-30":                      "B10-20 T20-30",
		"T10-20 B15-30":                      "T10-15 B15-30",
		"B10-30 T15-20":                      "B10-30",
		"T10-30 B15-20":                      "T10-15 B15-20 T20-30",
		"B10-20 T10-20":                      "B10-20",
		"B10-20 T10-30":                      "B10-20 T20-30",
		"T10-20 B10-30":                      "B10-30",
		"B20-30 T10-30":                      "T10-20 B20-30",
		"T20-30 B10-30":                      "B10-30",
		"B10-20 T30-40":                      "B10-20 T30-40",
		"T10-20 B30-40":                      "T10-20 B30-40",
		"T10-20 T30-40 B20-30":               "T10-20 B20-30 T30-40",
		"T10-20 T20-30 B15-25":               "T10-15 B15-25 T25-30",
		"B10-20 B30-40 T15-35":               "B10-20 T20-30 B30-40",
		"B10-20 B30-40 T0-100":               "T0-10 B10-20 T20-30 B30-40 T40-100",
		"B10-20 T10-20 B20-30":               "B10-30",
		"B10-20 B20-30 T5-15 T25-35":         "T5-10 B10-30 T30-35",
		"T10-40 T15-45 B20-25 B22-30 B31-32": "T10-20 B20-30 T30-31 B31-32 T32-45",
		"T10-12 B11-13 T12-14 B13-15 T14-16": "T10-11 B11-15 T15-16",
		// Those that nobody is busy by.
		"F10-20":               "",
		"C10-20":               "",
		"X10-20":               "",
		"B10-20 F15-30 C20-40": "B10-20",
		"T10-20 F10-20 X10-20": "T10-20",
		"F0-100 T20-30 C25-35": "T20-30",
	} {
		coversSo(t, given, want)
	}
}

// coversSo puts the events in two calendars, in the order in which they stand and in the other one.
func coversSo(t *testing.T, given string, want string) {
	t.Helper()
	lines := map[byte][]string{
		'B': {"STATUS:CONFIRMED"}, 'T': {"STATUS:TENTATIVE"}, 'F': {"TRANSP:TRANSPARENT"}, 'C': {"STATUS:CANCELLED"},
		'X': {"STATUS:TENTATIVE", "TRANSP:TRANSPARENT"},
	}
	spans := strings.Fields(given)
	for range 2 {
		s := New()
		puts(t, s, "one", lasting(t, "far", 200, 300), api.OK)
		puts(t, s, "two", lasting(t, "far", 200, 300), api.OK)
		for i, text := range spans {
			kind, begin, end := spanOf(t, text)
			puts(t, s, []string{"one", "two"}[i%2], lasting(t, strconv.Itoa(i), begin, end, lines[kind]...), api.OK)
		}
		has(t, s, "one two", want)
		slices.Reverse(spans)
	}
}

func TestOnlyTheCalendarsThatAreNamedAreTold(t *testing.T) {
	s := New()
	puts(t, s, "a", lasting(t, "u", 10, 20), api.OK)
	puts(t, s, "b", lasting(t, "u", 15, 30, "STATUS:TENTATIVE"), api.OK)
	puts(t, s, "c", lasting(t, "u", 25, 40), api.OK)
	puts(t, s, "empty", lasting(t, "u", 0, 100), api.OK)
	drops(t, s, "empty", "u", api.OK)
	for names, want := range map[string]string{
		"a": "B10-20", "b": "T15-30", "c": "B25-40", "empty": "",
		"a b": "B10-20 T20-30", "a c": "B10-20 B25-40", "b c": "T15-25 B25-40", "b empty": "T15-30",
		"a b c": "B10-20 T20-25 B25-40", "a empty c b": "B10-20 T20-25 B25-40",
	} {
		has(t, s, names, want)
	}
}

func TestBusyOfEventsThatComeAgain(t *testing.T) {
	const day = 86400
	s := New()
	puts(t, s, "daily", lasting(t, "a", 10, 20, "RRULE:FREQ=DAILY"), api.OK)
	puts(t, s, "counted", lasting(t, "a", 10, 20, "RRULE:FREQ=DAILY;COUNT=3", "EXDATE:19700102T000010Z", "RDATE:19700101T000015Z"), api.OK)
	puts(t, s, "touching", lasting(t, "a", 10, 10+day, "RRULE:FREQ=DAILY;COUNT=4"), api.OK)
	puts(t, s, "itself", lasting(t, "a", 10, 10+3*day, "RRULE:FREQ=DAILY;INTERVAL=2;COUNT=3", "STATUS:TENTATIVE"), api.OK)
	puts(t, s, "out", lasting(t, "a", 10, 20, "EXDATE:19700101T000010Z"), api.OK)
	tells(t, s, "daily", 0, 2*day+11, "B10-20 B86410-86420 B172810-172811")
	tells(t, s, "daily", 1000*day+15, 1001*day+10, "B86400015-86400020")
	tells(t, s, "daily", lastTime-day, lastTime, "B7258032010-7258032020")
	tells(t, s, "counted", 0, lastTime, "B10-25 B172810-172820")
	tells(t, s, "touching", 0, lastTime, "B10-345610")
	tells(t, s, "touching", 2*day, 2*day+20, "B172800-172820")
	tells(t, s, "itself", 0, lastTime, "T10-604810")
	tells(t, s, "itself", 6*day, 8*day, "T518400-604810")
	tells(t, s, "out", 0, lastTime, "")
	tells(t, s, "itself daily", day+5, 2*day+5, "T86405-86410 B86410-86420 T86420-172805")
}

func TestInstancesThatReachIntoTheWindow(t *testing.T) {
	const day = 86400
	s := New()
	begin := at(t, "20240601")
	puts(t, s, "month", lasting(t, "a", begin, begin+api.MaxLength), api.OK)
	tells(t, s, "month", begin+api.MaxLength-1, begin+2*api.MaxLength, span('B', begin+api.MaxLength-1, begin+api.MaxLength))
	tells(t, s, "month", begin+api.MaxLength, begin+2*api.MaxLength, "")
	// Each of the rule's instances reaches over those behind it: with COUNT, with UNTIL, with neither; by RDATE too.
	for i, line := range []string{"RRULE:FREQ=DAILY;COUNT=10", "RRULE:FREQ=DAILY;UNTIL=20240610T000000Z", "RDATE:20240610T000000Z", "RRULE:FREQ=MONTHLY;UNTIL=20240610T000000Z;BYDAY=MO"} {
		name := "c" + strconv.Itoa(i)
		puts(t, s, name, lasting(t, "a", begin, begin+api.MaxLength, line), api.OK)
		last := begin + 9*day + api.MaxLength
		tells(t, s, name, last-1, last+day, span('B', last-1, last))
		tells(t, s, name, last, last+day, "")
		tells(t, s, name, begin+30*day, begin+31*day, span('B', begin+30*day, begin+31*day))
		tells(t, s, name, begin-day, begin, "")
	}
}

func TestBusyAtTheEdgesOfTime(t *testing.T) {
	s := New()
	puts(t, s, "first", event("UID:a", "DTSTART:19700101T000000Z", "DURATION:PT1S"), api.OK)
	puts(t, s, "last", event("UID:a", "DTSTART:21991231T235950Z", "DURATION:P31D", "RRULE:FREQ=DAILY"), api.OK)
	puts(t, s, "last", event("UID:b", "DTSTART:21991201T235955Z", "DURATION:P31D", "STATUS:TENTATIVE"), api.OK)
	puts(t, s, "behind", event("UID:a", "DTSTART:21991231T235959Z", "DURATION:P31D"), api.OK)
	tells(t, s, "first", 0, 1, "B0-1")
	tells(t, s, "first", 0, lastTime, "B0-1")
	tells(t, s, "first", 1, lastTime, "")
	// The answer ends with the window, however far the instances go.
	tells(t, s, "last", lastTime-20, lastTime, "T7258118379-7258118390 B7258118390-7258118399")
	tells(t, s, "last", lastTime-1, lastTime, "B7258118398-7258118399")
	tells(t, s, "last", 0, lastTime-9, "T7255526395-7258118390")
	tells(t, s, "behind", 0, lastTime, "")
}

// Busy has no limit of its own: every rule is told up to LastYear.
func TestBusyOfMoreThanMaxSpans(t *testing.T) {
	s := New()
	text := event("UID:a", "DTSTART:19700101T000000Z", "DURATION:PT1S", "RRULE:FREQ=DAILY")
	answersErrno(t, text, 0, lastTime, api.ErrFull)
	puts(t, s, "c", text, api.OK)
	got, errno := s.Busy([]string{"c"}, 0, lastTime)
	if lines := strings.Count(got, "\r\nFREEBUSY;FBTYPE=BUSY:"); lines != 84006 || errno != api.OK {
		t.Errorf("P8: %d lines, %d, want 84006", lines, errno)
	}
	if !strings.Contains(got, "\r\nFREEBUSY;FBTYPE=BUSY:21991231T000000Z/21991231T000001Z\r\nEND:VFREEBUSY\r\n") {
		t.Errorf("P8: the last line is not that of the last day")
	}
	puts(t, s, "c", event("UID:a", "DTSTART:19700101T000000Z", "DURATION:P1D", "RRULE:FREQ=DAILY"), api.OK)
	tells(t, s, "c", 0, lastTime, "B0-7258118399")
}

func TestLinesAreNotTooLong(t *testing.T) {
	s := New()
	puts(t, s, "c", lasting(t, "a", 10, 20, "RRULE:FREQ=DAILY;COUNT=9"), api.OK)
	puts(t, s, "c", lasting(t, "b", 15, 25, "RRULE:FREQ=DAILY;COUNT=9", "STATUS:TENTATIVE"), api.OK)
	got, _ := s.Busy([]string{"c"}, 0, lastTime)
	lines := strings.Split(got, "\r\n")
	if len(lines) != 4+2*9+1 {
		t.Errorf("P8: %d lines, want %d", len(lines)-1, 4+2*9)
	}
	for _, line := range lines {
		if len(line) > 75 || strings.ContainsAny(line, "\r\n \t") {
			t.Errorf("P8: the line %q", line)
		}
	}
}

func TestErrorsOfBusy(t *testing.T) {
	s := New()
	names := []string{"a", "b", "c", "d", "e", "f", "g", "h"}
	tellsErrno(t, s, names[:1], 0, 100, api.ErrNone)
	for i, name := range names {
		puts(t, s, name, lasting(t, "a", 10*i, 10*i+10), api.OK)
	}
	tooMany := append(slices.Clone(names), "i")
	lists := []struct {
		names []string
		want  api.Errno
	}{
		{nil, api.ErrName}, {[]string{}, api.ErrName}, {tooMany, api.ErrName}, {make([]string, 100000), api.ErrName},
		{[]string{"a", "a"}, api.ErrName}, {[]string{"b", "a", "c", "b"}, api.ErrName}, {[]string{"none", "none"}, api.ErrName}, {[]string{"", ""}, api.ErrName},
		{[]string{"none", "a", "a"}, api.ErrName}, {[]string{"a", "none", "a"}, api.ErrName}, {[]string{"a", "a", "none"}, api.ErrName}, {append(slices.Clone(names[:7]), "a"), api.ErrName},
		{[]string{"none"}, api.ErrNone}, {[]string{"a", "none"}, api.ErrNone}, {[]string{"none", "a"}, api.ErrNone}, {append(slices.Clone(names[:7]), "i"), api.ErrNone},
		{[]string{""}, api.ErrNone}, {[]string{"A"}, api.ErrNone}, {[]string{"a "}, api.ErrNone}, {[]string{"a", "aa"}, api.ErrNone}, {[]string{strings.Repeat("a", api.MaxName+1)}, api.ErrNone}, {[]string{"a\x00"}, api.ErrNone},
	}
	for _, list := range lists {
		tellsErrno(t, s, list.names, 0, 100, list.want)
	}
	for _, window := range [][2]int{
		{5, 5}, {6, 5}, {0, 0}, {lastTime, lastTime}, {lastTime, 0}, {-1, 5}, {-2, -1}, {math.MinInt, 5}, {math.MinInt, math.MaxInt},
		{5, lastTime + 1}, {lastTime, lastTime + 1}, {5, math.MaxInt}, {lastTime + 1, lastTime + 2}, {math.MaxInt, math.MinInt},
	} {
		tellsErrno(t, s, names, window[0], window[1], api.ErrWindow)
		for _, list := range lists {
			tellsErrno(t, s, list.names, window[0], window[1], api.ErrWindow)
		}
	}
	has(t, s, strings.Join(names, " "), "B0-80")
}

func TestBusyChangesNoAnswer(t *testing.T) {
	s := New()
	puts(t, s, "c", lasting(t, "a", 10, 20, "RRULE:FREQ=WEEKLY"), api.OK)
	puts(t, s, "d", lasting(t, "b", 15, 30, "STATUS:TENTATIVE", "RRULE:FREQ=DAILY"), api.OK)
	for range 3 {
		has(t, s, "c d", "B10-20 T20-30")
		tells(t, s, "c d", lastTime-86400, lastTime, "T7258032015-7258032030")
		tells(t, s, "c", 604800, 2*604800, "B604810-604820")
		tellsErrno(t, s, []string{"c", "c"}, 0, 5, api.ErrName)
		tells(t, s, "d", 0, 20, "T15-20")
	}
}

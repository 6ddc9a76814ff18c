package fallow

import (
	"slices"
	"strconv"
	"strings"
	"testing"

	"fallow/api"
)

// lasting is an event from one second of 1970 to another.
func lasting(t *testing.T, name string, begin int, end int, lines ...string) string {
	t.Helper()
	return event(append([]string{"UID:" + name, "DTSTART:" + printed(t, begin), "DURATION:PT" + strconv.Itoa(end-begin) + "S"}, lines...)...)
}

func puts(t *testing.T, s *Server, calendar string, text string, want api.Errno) {
	t.Helper()
	if got := s.Put(calendar, text); got != want {
		t.Errorf("P6: Put(%q, %q) = %d, want %d", calendar, text, got, want)
	}
}

func drops(t *testing.T, s *Server, calendar string, name string, want api.Errno) {
	t.Helper()
	if got := s.Drop(calendar, name); got != want {
		t.Errorf("P6: Drop(%q, %q) = %d, want %d", calendar, name, got, want)
	}
}

// has asks for the first hundred seconds of 1970; each of want is a letter, B or T, and its seconds.
func has(t *testing.T, s *Server, names string, want string) {
	t.Helper()
	tells(t, s, names, 0, 100, want)
}

// isThere asks for a calendar that need not have an event.
func isThere(t *testing.T, s *Server, name string, want api.Errno) {
	t.Helper()
	if _, errno := s.Busy([]string{name}, 0, 100); errno != want {
		t.Errorf("P6: asked for the calendar %q: %d, want %d", name, errno, want)
	}
}

// wrongNames are none.
func wrongNames() []string {
	return []string{"", " ", "A", "aB", "a b", " a", "a ", "a-b", "a_b", "a:b", "ä", "a\x00", "a\r\n", "\xff", "/", ":", "`", "{",
		strings.Repeat("a", api.MaxName+1), strings.Repeat("a", 100000)}
}

func TestPutIntoNamesThatAreNone(t *testing.T) {
	s := New()
	for _, name := range wrongNames() {
		puts(t, s, name, with(), api.ErrName)
		// It is named ahead of Check's errors.
		puts(t, s, name, "x", api.ErrName)
		puts(t, s, name, with("RRULE:x"), api.ErrName)
		isThere(t, s, name, api.ErrNone)
	}
	for _, name := range []string{"a", "z", "0", "9", "a1", "1a", strings.Repeat("z", api.MaxName)} {
		puts(t, s, name, with(), api.OK)
		isThere(t, s, name, api.OK)
	}
}

func TestPutOfWhatIsNoEvent(t *testing.T) {
	s := New()
	puts(t, s, "old", lasting(t, "a1", 10, 20), api.OK)
	for text, want := range map[string]api.Errno{
		"":                           api.ErrText,
		"x":                          api.ErrText,
		with("SUMMARY:x"):            api.ErrText,
		event(uid, start):            api.ErrText,
		with("EXDATE:x", "RRULE:x"):  api.ErrTime,
		event(uid, start, "DTEND:x"): api.ErrTime,
		with("RRULE:FREQ=x"):         api.ErrRule,
		with(strings.Repeat("\r\n ", api.MaxText)): api.ErrText,
	} {
		refused(t, want, text)
		puts(t, s, "old", text, want)
		puts(t, s, "new", text, want)
	}
	has(t, s, "old", "B10-20")
	isThere(t, s, "new", api.ErrNone)
}

func TestPutAgain(t *testing.T) {
	s := New()
	puts(t, s, "c", lasting(t, "a", 10, 20), api.OK)
	puts(t, s, "c", lasting(t, "b", 30, 40), api.OK)
	puts(t, s, "d", lasting(t, "a", 50, 60), api.OK)
	has(t, s, "c", "B10-20 B30-40")
	has(t, s, "d", "B50-60")
	// The same UID takes the other's place, in its calendar alone.
	puts(t, s, "c", lasting(t, "a", 12, 22), api.OK)
	has(t, s, "c", "B12-22 B30-40")
	has(t, s, "d", "B50-60")
	has(t, s, "c d", "B12-22 B30-40 B50-60")
	puts(t, s, "c", lasting(t, "a", 12, 22), api.OK)
	has(t, s, "c", "B12-22 B30-40")
	puts(t, s, "c", lasting(t, "a", 10, 20, "STATUS:TENTATIVE"), api.OK)
	has(t, s, "c", "T10-20 B30-40")
	puts(t, s, "c", lasting(t, "a", 10, 20, "STATUS:CANCELLED"), api.OK)
	has(t, s, "c", "B30-40")
	puts(t, s, "c", lasting(t, "a", 10, 20), api.OK)
	has(t, s, "c", "B10-20 B30-40")
	// A UID is the same one, folded.
	puts(t, s, "c", strings.Replace(lasting(t, "b", 70, 80), "UID:b", "UI\r\n D:\r\n b\r\n ", 1), api.OK)
	has(t, s, "c", "B10-20 B70-80")
}

func TestMaxCalendars(t *testing.T) {
	s := New()
	for i := range api.MaxCalendars {
		isThere(t, s, "c"+strconv.Itoa(i), api.ErrNone)
		puts(t, s, "c"+strconv.Itoa(i), lasting(t, "a", 10*i, 10*i+5), api.OK)
	}
	puts(t, s, "more", lasting(t, "a", 1, 2), api.ErrFull)
	puts(t, s, "more", lasting(t, "b", 1, 2), api.ErrFull)
	isThere(t, s, "more", api.ErrNone)
	// The other errors are named ahead.
	puts(t, s, "More", lasting(t, "a", 1, 2), api.ErrName)
	puts(t, s, "more", "x", api.ErrText)
	puts(t, s, "more", event(uid, start, "DTEND:x"), api.ErrTime)
	puts(t, s, "more", with("RRULE:x"), api.ErrRule)
	for i := range api.MaxCalendars {
		puts(t, s, "c"+strconv.Itoa(i), lasting(t, "b", 10*i+7, 10*i+8), api.OK)
	}
	has(t, s, "c0 c7", "B0-5 B7-8 B70-75 B77-78")
	// A calendar stays, also without an event.
	drops(t, s, "c0", "a", api.OK)
	drops(t, s, "c0", "b", api.OK)
	has(t, s, "c0", "")
	puts(t, s, "more", lasting(t, "a", 1, 2), api.ErrFull)
	puts(t, s, "c0", lasting(t, "a", 1, 2), api.OK)
	has(t, s, "c0", "B1-2")
}

// full is a server with MaxEvents events in two calendars: the first two in c, the others in d.
func full(t *testing.T) *Server {
	t.Helper()
	s := New()
	for i := range api.MaxEvents {
		puts(t, s, []string{"c", "d"}[min(i/2, 1)], lasting(t, "u"+strconv.Itoa(i), i, i+1), api.OK)
	}
	return s
}

func TestMaxEvents(t *testing.T) {
	s := full(t)
	has(t, s, "c", "B0-2")
	has(t, s, "d", "B2-30")
	for _, calendar := range []string{"c", "d", "more"} {
		puts(t, s, calendar, lasting(t, "more", 50, 60), api.ErrFull)
		puts(t, s, calendar, lasting(t, "more", 50, 60, "TRANSP:TRANSPARENT"), api.ErrFull)
	}
	// A UID of another calendar is none of this one.
	puts(t, s, "d", lasting(t, "u0", 50, 60), api.ErrFull)
	puts(t, s, "c", lasting(t, "u2", 50, 60), api.ErrFull)
	isThere(t, s, "more", api.ErrNone)
	puts(t, s, "C", lasting(t, "more", 50, 60), api.ErrName)
	puts(t, s, "c", "x", api.ErrText)
	puts(t, s, "c", event(uid, start, "DTEND:x"), api.ErrTime)
	puts(t, s, "c", with("RRULE:x"), api.ErrRule)
	has(t, s, "c d", "B0-30")
	// One that takes another's place needs no room.
	puts(t, s, "c", lasting(t, "u0", 50, 60), api.OK)
	has(t, s, "c", "B1-2 B50-60")
	puts(t, s, "c", lasting(t, "more", 70, 80), api.ErrFull)
	drops(t, s, "d", "u2", api.OK)
	puts(t, s, "c", lasting(t, "more", 70, 80), api.OK)
	has(t, s, "c d", "B1-2 B3-30 B50-60 B70-80")
	puts(t, s, "d", lasting(t, "u2", 2, 3), api.ErrFull)
}

// Events that make nobody busy need room too.
func TestMaxEventsCountsAllEvents(t *testing.T) {
	s := New()
	lines := []string{"TRANSP:TRANSPARENT", "STATUS:CANCELLED", "STATUS:TENTATIVE", "RRULE:FREQ=DAILY;UNTIL=19700101T000000Z"}
	for i := range api.MaxEvents {
		puts(t, s, "c", lasting(t, "u"+strconv.Itoa(i), 10, 20, lines[i%len(lines)]), api.OK)
	}
	puts(t, s, "c", lasting(t, "more", 10, 20), api.ErrFull)
	drops(t, s, "c", "u0", api.OK)
	puts(t, s, "c", lasting(t, "more", 10, 20), api.OK)
	puts(t, s, "c", lasting(t, "more2", 10, 20), api.ErrFull)
}

func TestDrop(t *testing.T) {
	s := New()
	drops(t, s, "c", "a", api.ErrNone)
	isThere(t, s, "c", api.ErrNone)
	puts(t, s, "c", lasting(t, "a", 10, 20), api.OK)
	puts(t, s, "c", lasting(t, "b", 15, 25), api.OK)
	puts(t, s, "d", lasting(t, "a", 30, 40), api.OK)
	puts(t, s, "d", lasting(t, "e", 50, 60), api.OK)
	drops(t, s, "c", "e", api.ErrNone)
	drops(t, s, "d", "b", api.ErrNone)
	drops(t, s, "e", "a", api.ErrNone)
	drops(t, s, "a", "c", api.ErrNone)
	for _, name := range wrongNames() {
		drops(t, s, name, "a", api.ErrNone)
		drops(t, s, "c", name, api.ErrNone)
	}
	has(t, s, "c d", "B10-25 B30-40 B50-60")
	drops(t, s, "c", "a", api.OK)
	has(t, s, "c", "B15-25")
	has(t, s, "d", "B30-40 B50-60")
	drops(t, s, "c", "a", api.ErrNone)
	drops(t, s, "c", "b", api.OK)
	drops(t, s, "c", "b", api.ErrNone)
	// The calendar stays.
	has(t, s, "c", "")
	has(t, s, "d c", "B30-40 B50-60")
	puts(t, s, "c", lasting(t, "a", 70, 80), api.OK)
	has(t, s, "c", "B70-80")
	drops(t, s, "c", "a", api.OK)
	drops(t, s, "c", "a", api.ErrNone)
}

func TestDropOfEveryKind(t *testing.T) {
	s := New()
	for _, line := range []string{"TRANSP:TRANSPARENT", "STATUS:CANCELLED", "STATUS:TENTATIVE", "RRULE:FREQ=DAILY", "RRULE:FREQ=DAILY;UNTIL=19700101T000000Z"} {
		puts(t, s, "c", lasting(t, "a", 10, 20, line), api.OK)
		drops(t, s, "c", "a", api.OK)
		drops(t, s, "c", "a", api.ErrNone)
		has(t, s, "c", "")
	}
}

func TestServersInTurns(t *testing.T) {
	one, two := New(), New()
	if one == two {
		t.Error("P2: two servers are one")
	}
	puts(t, one, "c", lasting(t, "a", 10, 20), api.OK)
	isThere(t, two, "c", api.ErrNone)
	drops(t, two, "c", "a", api.ErrNone)
	puts(t, two, "c", lasting(t, "a", 30, 40), api.OK)
	puts(t, two, "d", lasting(t, "b", 50, 60), api.OK)
	has(t, one, "c", "B10-20")
	has(t, two, "c d", "B30-40 B50-60")
	isThere(t, one, "d", api.ErrNone)
	drops(t, one, "c", "b", api.ErrNone)
	drops(t, one, "c", "a", api.OK)
	has(t, one, "c", "")
	has(t, two, "c d", "B30-40 B50-60")
	for i := range api.MaxCalendars {
		puts(t, one, "x"+strconv.Itoa(i), lasting(t, "a", 1, 2), []api.Errno{api.OK, api.ErrFull}[i/(api.MaxCalendars-1)])
	}
	puts(t, two, "x", lasting(t, "a", 1, 2), api.OK)
	other := full(t)
	puts(t, other, "c", lasting(t, "more", 1, 2), api.ErrFull)
	puts(t, two, "c", lasting(t, "more", 1, 2), api.OK)
	isThere(t, New(), "c", api.ErrNone)
}

// What was put is what was read then, whatever comes behind it.
func TestEventsOfOneText(t *testing.T) {
	s := New()
	text := lasting(t, "a", 10, 20, "RRULE:FREQ=DAILY;COUNT=3;BYDAY=TH,SA", "EXDATE:19700103T000010Z", "RDATE:19700101T000030Z")
	puts(t, s, "c", text, api.OK)
	puts(t, s, "d", text, api.OK)
	puts(t, s, "d", strings.ReplaceAll(text, "TH,SA", "FR"), api.OK)
	has(t, s, "c", "B10-20 B30-40")
	has(t, s, "d", "B30-40")
	tells(t, s, "c", 0, 40*86400, "B10-20 B30-40 B604810-604820")
	drops(t, s, "d", "a", api.OK)
	has(t, s, "c", "B10-20 B30-40")
}

func TestCalendarsHandedInStayAsTheyAre(t *testing.T) {
	s := New()
	for _, name := range []string{"c", "a", "b"} {
		puts(t, s, name, lasting(t, "a", 10, 20), api.OK)
	}
	memory := []string{"c", "a", "b", "spare", "", "room"}
	for _, asked := range [][]string{memory[:3], memory[:1], memory[:0], memory, memory[2:4], {"c", "a", "c"}} {
		kept := slices.Clone(memory)
		before := slices.Clone(asked)
		_, _ = s.Busy(asked, 0, 100)
		if !slices.Equal(memory, kept) || !slices.Equal(asked, before) {
			t.Errorf("P2: the list %q became %q, its memory %q", before, asked, memory)
		}
	}
	// Nor are they kept.
	asked := []string{"c", "a"}
	first, _ := s.Busy(asked, 0, 100)
	asked[0], asked[1] = "b", "none"
	if again, errno := s.Busy([]string{"c", "a"}, 0, 100); again != first || errno != api.OK {
		t.Errorf("P2: Busy = %q, %d, but at first %q", again, errno, first)
	}
}

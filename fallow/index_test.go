package fallow

import (
	"math"
	"strconv"
	"strings"
	"testing"

	"fallow/api"
	"fallow/calendars"
	"fallow/events"
)

const (
	day   = 86400
	daily = "RRULE:FREQ=DAILY"
)

func cached(t *testing.T, s *Server, want int) {
	t.Helper()
	if got := s.Cached(); got != want {
		t.Errorf("P7: Cached() = %d, want %d", got, want)
	}
}

func horizon(t *testing.T, s *Server, time int, want api.Errno) {
	t.Helper()
	if got := s.Horizon(time); got != want {
		t.Errorf("P7: Horizon(%d) = %d, want %d", time, got, want)
	}
}

// indexed fails, if the horizon is another one, or the index has more instances or less.
func indexed(t *testing.T, s *Server, time int, count int) {
	t.Helper()
	cached(t, s, count)
	if got := s.index.Horizon(); got != time {
		t.Errorf("P7: the horizon is %d, want %d", got, time)
	}
}

// busyTo asks for one second ahead of a time.
func busyTo(t *testing.T, s *Server, calendar string, to int) {
	t.Helper()
	if _, errno := s.Busy([]string{calendar}, to-1, to); errno != api.OK {
		t.Errorf("P8: Busy(%s, %d, %d): %d", calendar, to-1, to, errno)
	}
}

func TestCachedBehindEachCall(t *testing.T) {
	s := New()
	indexed(t, s, 0, 0)
	puts(t, s, "c", lasting(t, "a", 0, 10, daily), api.OK)
	indexed(t, s, 0, 0)
	horizon(t, s, 10*day, api.OK)
	indexed(t, s, 10*day, 10)
	puts(t, s, "d", lasting(t, "a", 5*day, 5*day+10, daily), api.OK)
	indexed(t, s, 10*day, 15)
	puts(t, s, "d", lasting(t, "a", 8*day, 8*day+10, daily), api.OK)
	indexed(t, s, 10*day, 12)
	puts(t, s, "d", lasting(t, "a", 4*day, 4*day+10, daily), api.OK)
	indexed(t, s, 10*day, 16)
	puts(t, s, "c", lasting(t, "b", 3*day, 4*day), api.OK)
	indexed(t, s, 10*day, 17)
	drops(t, s, "d", "a", api.OK)
	indexed(t, s, 10*day, 11)
	drops(t, s, "c", "b", api.OK)
	indexed(t, s, 10*day, 10)
	// Busy goes on where the window ends behind the horizon, for the calendars that were not named too.
	busyTo(t, s, "c", 5*day)
	indexed(t, s, 10*day, 10)
	busyTo(t, s, "c", 10*day)
	indexed(t, s, 10*day, 10)
	busyTo(t, s, "c", 10*day+1)
	indexed(t, s, 10*day+1, 11)
	busyTo(t, s, "d", 20*day)
	indexed(t, s, 20*day, 20)
	puts(t, s, "d", lasting(t, "b", 19*day, 20*day, daily), api.OK)
	indexed(t, s, 20*day, 21)
	busyTo(t, s, "c", 21*day)
	indexed(t, s, 21*day, 23)
	drops(t, s, "c", "a", api.OK)
	indexed(t, s, 21*day, 2)
	drops(t, s, "d", "b", api.OK)
	indexed(t, s, 21*day, 0)
}

func TestCachedCountsWhatMakesSomebodyBusy(t *testing.T) {
	s := New()
	horizon(t, s, 5*day, api.OK)
	puts(t, s, "c", lasting(t, "other", 10, 20), api.OK)
	counts := map[string]int{
		"TRANSP:OPAQUE": 5, "TRANSP:TRANSPARENT": 0, "STATUS:CONFIRMED": 5, "STATUS:TENTATIVE": 5, "STATUS:CANCELLED": 0,
		"STATUS:TENTATIVE\r\nTRANSP:TRANSPARENT": 0, "TRANSP:TRANSPARENT\r\nSTATUS:CONFIRMED": 0, "TRANSP:OPAQUE\r\nSTATUS:CANCELLED": 0,
		"TRANSP:TRANSPARENT\r\nSTATUS:CANCELLED": 0, "TRANSP:OPAQUE\r\nSTATUS:TENTATIVE": 5,
	}
	// Each of them is put in the place of each other one; one that was there ahead of the horizon, and one behind it.
	for one, count := range counts {
		for other, otherCount := range counts {
			puts(t, s, "c", lasting(t, "a", 0, 10, daily, one), api.OK)
			indexed(t, s, 5*day, count+1)
			puts(t, s, "c", lasting(t, "a", 0, 10, daily, other), api.OK)
			indexed(t, s, 5*day, otherCount+1)
			horizon(t, s, 0, api.OK)
			cached(t, s, 0)
			horizon(t, s, 5*day, api.OK)
			indexed(t, s, 5*day, otherCount+1)
			drops(t, s, "c", "a", api.OK)
			indexed(t, s, 5*day, 1)
		}
	}
}

func TestInstancesAtTheHorizon(t *testing.T) {
	s := New()
	puts(t, s, "c", lasting(t, "a", 100, 100+api.MaxLength), api.OK)
	for _, step := range [][2]int{{99, 0}, {100, 0}, {101, 1}, {100, 0}, {lastTime, 1}, {101, 1}, {99, 0}} {
		horizon(t, s, step[0], api.OK)
		indexed(t, s, step[0], step[1])
	}
	for _, step := range [][2]int{{100, 0}, {101, 1}} {
		busyTo(t, s, "c", step[0])
		indexed(t, s, step[0], step[1])
	}
	for _, step := range [][2]int{{100, 1}, {101, 0}, {102, 0}, {99, 1}, {101, 0}, {0, 1}} {
		puts(t, s, "c", lasting(t, "a", step[0], step[0]+1), api.OK)
		indexed(t, s, 101, step[1])
	}
}

func TestIndexAtTheEdgesOfTime(t *testing.T) {
	s := New()
	puts(t, s, "c", lasting(t, "first", 0, 10), api.OK)
	indexed(t, s, 0, 0)
	horizon(t, s, 1, api.OK)
	indexed(t, s, 1, 1)
	puts(t, s, "c", lasting(t, "last", lastTime, lastTime+10), api.OK)
	puts(t, s, "c", lasting(t, "next", lastTime-1, lastTime+10), api.OK)
	horizon(t, s, lastTime-1, api.OK)
	indexed(t, s, lastTime-1, 1)
	horizon(t, s, lastTime, api.OK)
	indexed(t, s, lastTime, 2)
	tells(t, s, "c", 0, lastTime, "B0-10 B7258118398-7258118399")
	indexed(t, s, lastTime, 2)
}

// Each case: the event's lines, and how many instances begin ahead of the day 10.
func TestCachedCountsInstances(t *testing.T) {
	for _, c := range []struct {
		lines []string
		want  int
	}{
		{nil, 1},
		{[]string{"EXDATE:19700102T000000Z"}, 0},
		{[]string{"EXDATE:19700102T000001Z"}, 1},
		{[]string{"RDATE:19700101T000000Z,19700102T000000Z,19700103T000000Z,19700110T235959Z,19700111T000000Z"}, 3},
		{[]string{daily}, 9},
		{[]string{daily + ";COUNT=3"}, 3},
		{[]string{daily + ";COUNT=100"}, 9},
		{[]string{daily + ";UNTIL=19700105T000000Z"}, 4},
		{[]string{daily + ";INTERVAL=2"}, 5},
		{[]string{daily + ";COUNT=3", "EXDATE:19700103T000000Z", "RDATE:19700103T000000Z,19700104T000000Z,19700105T000001Z"}, 3},
		{[]string{daily + ";BYMONTH=2"}, 0},
		{[]string{"RRULE:FREQ=WEEKLY;BYDAY=MO,FR"}, 3},
		{[]string{"RRULE:FREQ=MONTHLY;BYMONTHDAY=1"}, 0},
	} {
		s, behind := New(), New()
		text := lasting(t, "a", day, day+api.MaxLength, c.lines...)
		puts(t, s, "c", text, api.OK)
		horizon(t, s, 10*day, api.OK)
		indexed(t, s, 10*day, c.want)
		horizon(t, behind, 10*day, api.OK)
		puts(t, behind, "c", text, api.OK)
		indexed(t, behind, 10*day, c.want)
		// Step by step it is the same as at once, forth and back.
		horizon(t, s, 0, api.OK)
		for time := 0; time < 10*day; time += 40000 {
			horizon(t, s, time, api.OK)
		}
		busyTo(t, s, "c", 10*day)
		indexed(t, s, 10*day, c.want)
		horizon(t, behind, 100*day, api.OK)
		for time := 100 * day; time > 10*day; time -= 40000 {
			horizon(t, behind, time, api.OK)
		}
		horizon(t, behind, 10*day, api.OK)
		indexed(t, behind, 10*day, c.want)
		drops(t, s, "c", "a", api.OK)
		indexed(t, s, 10*day, 0)
		drops(t, behind, "c", "a", api.OK)
		indexed(t, behind, 10*day, 0)
	}
}

func TestHorizonSetBack(t *testing.T) {
	s := New()
	puts(t, s, "c", lasting(t, "a", 0, 10, daily), api.OK)
	puts(t, s, "d", lasting(t, "a", 5, 5+api.MaxLength, daily, "STATUS:TENTATIVE"), api.OK)
	for _, step := range [][2]int{
		{100 * day, 200}, {99*day + 6, 200}, {99*day + 5, 199}, {99*day + 1, 199}, {99 * day, 198}, {50 * day, 100}, {50 * day, 100},
		{day, 2}, {6, 2}, {5, 1}, {1, 1}, {0, 0}, {0, 0}, {3 * day, 6}, {0, 0}, {250 * day, 500}, {0, 0}, {1, 1},
	} {
		horizon(t, s, step[0], api.OK)
		indexed(t, s, step[0], step[1])
	}
	has(t, s, "c d", "B0-10 T10-100")
}

// noTimes are numbers that are none.
func noTimes() []int {
	return []int{-1, -day, math.MinInt, math.MinInt + 1, lastTime + 1, lastTime + day, math.MaxInt, math.MaxInt - 1, math.MaxInt32 * 10}
}

func TestHorizonsThatAreNoTime(t *testing.T) {
	s := New()
	for _, time := range noTimes() {
		horizon(t, s, time, api.ErrTime)
		indexed(t, s, 0, 0)
	}
	puts(t, s, "c", lasting(t, "a", 0, 10, daily), api.OK)
	horizon(t, s, 20*day, api.OK)
	for _, time := range noTimes() {
		// It is named ahead of ErrFull: there are too many instances ahead of most of these numbers.
		horizon(t, s, time, api.ErrTime)
		indexed(t, s, 20*day, 20)
	}
	horizon(t, s, lastTime, api.ErrFull)
	indexed(t, s, 20*day, 20)
}

// brimful is a server whose index has MaxIndex instances: those of the event a of the calendar c, one each day.
func brimful(t *testing.T) *Server {
	t.Helper()
	s := New()
	puts(t, s, "c", lasting(t, "a", 0, 10, daily), api.OK)
	horizon(t, s, brim, api.OK)
	indexed(t, s, brim, api.MaxIndex)
	return s
}

const brim = api.MaxIndex * day

func TestMaxIndexByHorizon(t *testing.T) {
	s := New()
	puts(t, s, "c", lasting(t, "a", 0, 10, daily), api.OK)
	horizon(t, s, brim+1, api.ErrFull)
	indexed(t, s, 0, 0)
	horizon(t, s, brim-day, api.OK)
	indexed(t, s, brim-day, api.MaxIndex-1)
	horizon(t, s, brim+1, api.ErrFull)
	indexed(t, s, brim-day, api.MaxIndex-1)
	horizon(t, s, brim-day+1, api.OK)
	indexed(t, s, brim-day+1, api.MaxIndex)
	horizon(t, s, brim, api.OK)
	indexed(t, s, brim, api.MaxIndex)
	for _, time := range []int{brim + 1, brim + day, lastTime} {
		horizon(t, s, time, api.ErrFull)
		indexed(t, s, brim, api.MaxIndex)
	}
	horizon(t, s, day, api.OK)
	indexed(t, s, day, 1)
	horizon(t, s, brim+1, api.ErrFull)
	indexed(t, s, day, 1)
	// Where the events have no more than MaxIndex instances, none of the times is too far.
	puts(t, s, "c", lasting(t, "a", 0, 10, daily+";COUNT="+strconv.Itoa(api.MaxIndex)), api.OK)
	horizon(t, s, lastTime, api.OK)
	indexed(t, s, lastTime, api.MaxIndex)
	horizon(t, s, 0, api.OK)
	puts(t, s, "d", lasting(t, "a", 1000*day, 1000*day+1), api.OK)
	horizon(t, s, 1000*day, api.OK)
	indexed(t, s, 1000*day, api.MaxIndex)
	horizon(t, s, 1000*day+1, api.ErrFull)
	indexed(t, s, 1000*day, api.MaxIndex)
	// Those of which nobody is busy need no room.
	puts(t, s, "d", lasting(t, "a", 1000*day, 1000*day+1, daily, "STATUS:CANCELLED"), api.OK)
	horizon(t, s, lastTime, api.OK)
	indexed(t, s, lastTime, api.MaxIndex)
}

func TestMaxIndexByPut(t *testing.T) {
	const soon = "RDATE:19700101T000001Z"
	for _, c := range []struct {
		calendar, name string
		begin          int
		lines          []string
		horizon, count int
	}{
		// What needs no room.
		{"c", "b", brim, nil, brim, api.MaxIndex},
		{"c", "b", 0, []string{daily, "TRANSP:TRANSPARENT"}, brim, api.MaxIndex},
		{"d", "a", 0, []string{daily, "STATUS:CANCELLED"}, brim, api.MaxIndex},
		{"d", "a", 5, []string{"EXDATE:19700101T000005Z"}, brim, api.MaxIndex},
		// What needs it.
		{"c", "b", brim - 1, nil, 0, 0},
		{"d", "a", 0, nil, 0, 0},
		{"d", "a", 0, []string{daily, "STATUS:TENTATIVE"}, 0, 0},
		// What takes the other's place.
		{"c", "a", 0, []string{daily}, brim, api.MaxIndex},
		{"c", "a", 10, []string{daily, "STATUS:TENTATIVE"}, brim, api.MaxIndex},
		{"c", "a", 0, []string{daily, soon}, 0, 0},
		{"c", "a", 0, []string{daily, soon, "EXDATE:19700102T000000Z"}, brim, api.MaxIndex},
		{"c", "a", day, []string{daily}, brim, api.MaxIndex - 1},
		{"c", "a", 7, nil, brim, 1},
		{"c", "a", 0, []string{daily, "STATUS:CANCELLED"}, brim, 0},
	} {
		s := brimful(t)
		puts(t, s, c.calendar, lasting(t, c.name, c.begin, c.begin+10, c.lines...), api.OK)
		indexed(t, s, c.horizon, c.count)
		// What was put is in the calendar, however the index is; without it there is room again.
		drops(t, s, c.calendar, c.name, api.OK)
		puts(t, s, "c", lasting(t, "a", 0, 10, daily), api.OK)
		horizon(t, s, brim, api.OK)
		indexed(t, s, brim, api.MaxIndex)
	}
}

// The horizon is 0 from then on: what is put is not in the index, until it is asked for.
func TestPutsBehindAPutThatWasTooMuch(t *testing.T) {
	s := brimful(t)
	puts(t, s, "c", lasting(t, "b", 100, 110), api.OK)
	indexed(t, s, 0, 0)
	puts(t, s, "c", lasting(t, "x", 200, 210), api.OK)
	indexed(t, s, 0, 0)
	drops(t, s, "c", "x", api.OK)
	puts(t, s, "d", lasting(t, "b", 10*day, 11*day, daily, "STATUS:TENTATIVE"), api.OK)
	indexed(t, s, 0, 0)
	tells(t, s, "c d", 0, 111, "B0-10 B100-110")
	indexed(t, s, 111, 2)
	horizon(t, s, brim, api.ErrFull)
	indexed(t, s, 111, 2)
	tells(t, s, "c d", 10*day, 11*day, "B864000-864010 T864010-950400")
	indexed(t, s, 11*day, 13)
	drops(t, s, "d", "b", api.OK)
	indexed(t, s, 11*day, 12)
	drops(t, s, "c", "b", api.OK)
	indexed(t, s, 11*day, 11)
	horizon(t, s, brim, api.OK)
	indexed(t, s, brim, api.MaxIndex)
}

func TestMaxIndexByBusy(t *testing.T) {
	s := New()
	puts(t, s, "c", lasting(t, "a", 0, 10, daily), api.OK)
	puts(t, s, "d", lasting(t, "a", 10, 20), api.OK)
	drops(t, s, "d", "a", api.OK)
	for _, calendar := range []string{"c", "d"} {
		horizon(t, s, 3*day, api.OK)
		busyTo(t, s, calendar, brim+1)
		indexed(t, s, 3*day, 3)
		busyTo(t, s, calendar, brim)
		indexed(t, s, brim, api.MaxIndex)
		busyTo(t, s, calendar, lastTime)
		indexed(t, s, brim, api.MaxIndex)
		busyTo(t, s, calendar, 10)
		indexed(t, s, brim, api.MaxIndex)
	}
	// It answers all the same: ahead of the horizon, across it and behind it.
	tells(t, s, "c", brim-2*day+5, brim, span('B', brim-2*day+5, brim-2*day+10)+" "+span('B', brim-day, brim-day+10))
	tells(t, s, "c", brim-day+5, brim+5, span('B', brim-day+5, brim-day+10)+" "+span('B', brim, brim+5))
	tells(t, s, "c d", brim, brim+day+1, span('B', brim, brim+10)+" "+span('B', brim+day, brim+day+1))
	tells(t, s, "c", lastTime-day, lastTime, "B7258032000-7258032010")
	tells(t, s, "d", 0, lastTime, "")
	indexed(t, s, brim, api.MaxIndex)
	got, errno := s.Busy([]string{"c"}, 0, lastTime)
	if lines := strings.Count(got, "\r\nFREEBUSY;FBTYPE=BUSY:"); lines != 84006 || errno != api.OK {
		t.Errorf("P8: %d lines, %d, want 84006", lines, errno)
	}
	indexed(t, s, brim, api.MaxIndex)
}

// The calendars that were not asked for count too.
func TestMaxIndexOfAllCalendars(t *testing.T) {
	s := New()
	for i := range api.MaxEvents {
		puts(t, s, "c"+strconv.Itoa(i%api.MaxCalendars), lasting(t, "u"+strconv.Itoa(i), i, i+10, daily), api.OK)
	}
	last := api.MaxIndex / api.MaxEvents
	left := api.MaxIndex % api.MaxEvents
	busyTo(t, s, "c0", last*day)
	indexed(t, s, last*day, last*api.MaxEvents)
	busyTo(t, s, "c1", last*day+left)
	indexed(t, s, last*day+left, api.MaxIndex)
	busyTo(t, s, "c2", last*day+left+1)
	indexed(t, s, last*day+left, api.MaxIndex)
	horizon(t, s, last*day+left+1, api.ErrFull)
	indexed(t, s, last*day+left, api.MaxIndex)
	drops(t, s, "c3", "u3", api.OK)
	indexed(t, s, last*day+left, api.MaxIndex-last-1)
	busyTo(t, s, "c3", last*day+left+1)
	indexed(t, s, last*day+left+1, api.MaxIndex-last)
	puts(t, s, "c3", lasting(t, "u3", 3, 13, daily), api.OK)
	indexed(t, s, 0, 0)
}

// errs makes calls that are refused; text is an event for which the index has no room.
func errs(t *testing.T, s *Server, text string) {
	t.Helper()
	puts(t, s, "C", text, api.ErrName)
	puts(t, s, "c", text+"x", api.ErrText)
	puts(t, s, "c", strings.Replace(text, "DURATION:PT", "DURATION:", 1), api.ErrTime)
	puts(t, s, "c", strings.Replace(text, "FREQ=DAILY", "FREQ=HOURLY", 1), api.ErrRule)
	drops(t, s, "c", "none", api.ErrNone)
	drops(t, s, "none", "a", api.ErrNone)
	for _, time := range noTimes() {
		horizon(t, s, time, api.ErrTime)
		tellsErrno(t, s, []string{"c"}, 0, time, api.ErrWindow)
		tellsErrno(t, s, []string{"c"}, time, lastTime, api.ErrWindow)
	}
	horizon(t, s, lastTime, api.ErrFull)
	tellsErrno(t, s, []string{"c"}, 1000*day, 1000*day, api.ErrWindow)
	tellsErrno(t, s, nil, 0, 1000*day, api.ErrName)
	tellsErrno(t, s, make([]string, api.MaxCalendars+1), 0, 1000*day, api.ErrName)
	tellsErrno(t, s, []string{"c", "c"}, 0, 1000*day, api.ErrName)
	tellsErrno(t, s, []string{"c", "none"}, 0, 1000*day, api.ErrNone)
	tellsErrno(t, s, []string{""}, 0, 1000*day, api.ErrNone)
}

func TestErrorsChangeNeitherTheIndexNorTheHorizon(t *testing.T) {
	text := lasting(t, "more", 0, 10, daily)
	s := brimful(t)
	errs(t, s, text)
	indexed(t, s, brim, api.MaxIndex)
	horizon(t, s, 7*day, api.OK)
	errs(t, s, text)
	// With this horizon there is room for Busy's: the errors alone keep it where it is.
	tellsErrno(t, s, []string{"c", "none"}, 0, 8*day, api.ErrNone)
	tellsErrno(t, s, []string{"c", "c"}, 0, 8*day, api.ErrName)
	tellsErrno(t, s, []string{"c"}, 8*day, 8*day, api.ErrWindow)
	tellsErrno(t, s, []string{"c"}, -1, 8*day, api.ErrWindow)
	indexed(t, s, 7*day, 7)
	tells(t, s, "c", 6*day, 7*day+1, "B518400-518410 B604800-604801")
}

// A Put that finds no room in the calendars does not empty the index.
func TestPutsThatAreRefusedLeaveTheIndex(t *testing.T) {
	s := brimful(t)
	text := lasting(t, "more", 0, 10, daily)
	for i := range api.MaxCalendars - 1 {
		puts(t, s, "c"+strconv.Itoa(i), lasting(t, "a", brim, brim+1), api.OK)
	}
	puts(t, s, "more", text, api.ErrFull)
	indexed(t, s, brim, api.MaxIndex)
	for i := range api.MaxEvents - api.MaxCalendars {
		puts(t, s, "c0", lasting(t, "u"+strconv.Itoa(i), brim, brim+1), api.OK)
	}
	puts(t, s, "more", text, api.ErrFull)
	puts(t, s, "c", text, api.ErrFull)
	indexed(t, s, brim, api.MaxIndex)
	drops(t, s, "c0", "u0", api.OK)
	indexed(t, s, brim, api.MaxIndex)
	puts(t, s, "c", text, api.OK)
	indexed(t, s, 0, 0)
}

// mixed puts events of which some are long, some tentative, some of no weight, and one ends before others begin.
func mixed(t *testing.T, s *Server) {
	t.Helper()
	puts(t, s, "c", lasting(t, "long", 0, api.MaxLength, "RRULE:FREQ=MONTHLY;BYMONTHDAY=3", "STATUS:TENTATIVE"), api.OK)
	puts(t, s, "c", lasting(t, "short", 3600, 7200, "RRULE:FREQ=DAILY;INTERVAL=3", "EXDATE:19700110T010000Z", "RDATE:19700110T013000Z"), api.OK)
	puts(t, s, "c", lasting(t, "once", 20*day, 23*day), api.OK)
	puts(t, s, "d", lasting(t, "counted", 50, 5*day, "RRULE:FREQ=WEEKLY;COUNT=4"), api.OK)
	puts(t, s, "d", lasting(t, "free", 0, api.MaxLength, daily, "TRANSP:TRANSPARENT"), api.OK)
	puts(t, s, "d", lasting(t, "gone", 0, api.MaxLength, daily, "STATUS:CANCELLED"), api.OK)
}

// Where the events are dense, the index does not go as far as the longest of the windows.
func TestBusyAtEachHorizon(t *testing.T) {
	const step = 7*day + 1800
	for _, dense := range []bool{false, true} {
		for from := 0; from < 50*day; from += step {
			for _, to := range []int{from + 1, from + day, from + 30*day, from + 400*day} {
				sameAtEachHorizon(t, dense, from, to)
			}
		}
	}
}

func sameAtEachHorizon(t *testing.T, dense bool, from int, to int) {
	t.Helper()
	wanted := ""
	for _, time := range []int{0, 1, from - 40*day, from - 1, from, from + 1, from + (to-from)/2, to - 1, to, to + 1, to + 40*day, lastTime} {
		s := New()
		mixed(t, s)
		if dense {
			for i := range 12 {
				puts(t, s, "e", lasting(t, strconv.Itoa(i), i*100, i*100+50, "RRULE:FREQ=DAILY;INTERVAL=2"), api.OK)
			}
		}
		_ = s.Horizon(time)
		got, errno := s.Busy([]string{"d", "c"}, from, to)
		if wanted == "" {
			wanted = got
		}
		if got != wanted || errno != api.OK {
			t.Errorf("P8: with the horizon %d: Busy(%d, %d) = %q, %d, want %q", time, from, to, got, errno, wanted)
		}
	}
}

// An instance that begins ahead of the window, in the index or not, reaches into it.
func TestIndexedInstancesThatReachIntoTheWindow(t *testing.T) {
	s := New()
	puts(t, s, "c", lasting(t, "long", 10, 10+api.MaxLength), api.OK)
	for i := range 24 {
		puts(t, s, "d", lasting(t, strconv.Itoa(i), 20, 30, daily), api.OK)
	}
	for _, time := range []int{0, 10, 11, day, 20 * day} {
		horizon(t, s, time, api.OK)
		// Too many instances for the index begin ahead of this window's end; they are not asked for.
		tells(t, s, "c", 30*day, 32*day, span('B', 30*day, 31*day+10))
		if s.index.Horizon() != time {
			t.Errorf("P7: the horizon is %d, want %d", s.index.Horizon(), time)
		}
	}
	tells(t, s, "c", 5*day, 6*day, span('B', 5*day, 6*day))
	drops(t, s, "c", "long", api.OK)
	tells(t, s, "c", 5*day, 6*day, "")
	tells(t, s, "c", 30*day, 32*day, "")
}

// What the index has is asked of the index: an instance is laid there that no event has.
func TestBusyAsksTheIndexAsFarAsItGoes(t *testing.T) {
	s := brimful(t)
	drops(t, s, "c", "a", api.OK)
	s.index.Put(calendars.Key{Calendar: "c", UID: "laid"}, events.Event{Start: 50, Length: 10})
	for _, to := range []int{51, 100, brim, brim + 1} {
		tells(t, s, "c", 0, to, span('B', 50, min(60, to)))
	}
	puts(t, s, "d", lasting(t, "a", brim+1, brim+2, "RRULE:FREQ=DAILY;COUNT=1000"), api.OK)
	tells(t, s, "c", 0, brim+1, "B50-60")
	tells(t, s, "c", 0, lastTime, "")
}

func TestIndexesInTurns(t *testing.T) {
	one, two := New(), New()
	puts(t, one, "c", lasting(t, "a", 0, 10, daily), api.OK)
	horizon(t, two, 10*day, api.OK)
	indexed(t, one, 0, 0)
	indexed(t, two, 10*day, 0)
	puts(t, two, "c", lasting(t, "a", 5*day, 6*day, daily), api.OK)
	indexed(t, one, 0, 0)
	indexed(t, two, 10*day, 5)
	horizon(t, one, brim, api.OK)
	indexed(t, one, brim, api.MaxIndex)
	indexed(t, two, 10*day, 5)
	busyTo(t, two, "c", 20*day)
	puts(t, two, "c", lasting(t, "b", 0, 10), api.OK)
	indexed(t, one, brim, api.MaxIndex)
	indexed(t, two, 20*day, 16)
	puts(t, one, "c", lasting(t, "b", 0, 10), api.OK)
	indexed(t, one, 0, 0)
	indexed(t, two, 20*day, 16)
	drops(t, two, "c", "a", api.OK)
	busyTo(t, one, "c", 3*day)
	indexed(t, one, 3*day, 4)
	indexed(t, two, 20*day, 1)
	indexed(t, New(), 0, 0)
}

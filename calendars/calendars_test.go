package calendars

import (
	"maps"
	"slices"
	"strconv"
	"testing"

	"fallow/api"
	"fallow/events"
	"fallow/giveup"
)

func put(c *Calendars, calendar string, uid string, start int) api.Errno {
	return giveup.Outcome(func() { c.Put(Key{Calendar: calendar, UID: uid}, events.Event{UID: uid, Start: start}) })
}

func drop(c *Calendars, calendar string, uid string) api.Errno {
	return giveup.Outcome(func() { c.Drop(Key{Calendar: calendar, UID: uid}) })
}

func need(c *Calendars, names ...string) api.Errno {
	return giveup.Outcome(func() { c.Need(names) })
}

// starts are those of the events of these calendars, in order.
func starts(c *Calendars, names ...string) []int {
	var starts []int
	for event := range c.Events(names) {
		starts = append(starts, event.Start)
	}
	slices.Sort(starts)
	return starts
}

func is(t *testing.T, what string, got api.Errno, want api.Errno) {
	t.Helper()
	if got != want {
		t.Errorf("%s: %d, want %d", what, got, want)
	}
}

func has(t *testing.T, what string, got []int, want ...int) {
	t.Helper()
	if !slices.Equal(got, want) {
		t.Errorf("%s: the events start at %v, want %v", what, got, want)
	}
}

func TestPutAndDrop(t *testing.T) {
	c := New()
	is(t, "P6: Drop", drop(c, "a", "u"), api.ErrNone)
	is(t, "P6: Put", put(c, "a", "u", 1), api.OK)
	is(t, "P6: Put", put(c, "a", "v", 2), api.OK)
	is(t, "P6: Put", put(c, "b", "u", 3), api.OK)
	has(t, "P6: a", starts(c, "a"), 1, 2)
	has(t, "P6: a and b", starts(c, "a", "b"), 1, 2, 3)
	has(t, "P6: none", starts(c))
	is(t, "P6: Put again", put(c, "a", "u", 4), api.OK)
	has(t, "P6: a and b", starts(c, "b", "a"), 2, 3, 4)
	is(t, "P6: Drop", drop(c, "b", "v"), api.ErrNone)
	is(t, "P6: Drop", drop(c, "b", "u"), api.OK)
	is(t, "P6: Drop again", drop(c, "b", "u"), api.ErrNone)
	has(t, "P6: b", starts(c, "b"))
	is(t, "P6: b stays", need(c, "b"), api.OK)
	has(t, "P6: a", starts(c, "a"), 2, 4)
}

// What goes is told: somebody may have kept something of it.
func TestEventsThatGoAreTold(t *testing.T) {
	c := New()
	key := Key{Calendar: "a", UID: "u"}
	if old, replaced := c.Put(key, events.Event{UID: "u", Start: 1}); replaced || old.Start != 0 {
		t.Errorf("P6: a new event took the place of %v, %t", old, replaced)
	}
	if old, replaced := c.Put(Key{Calendar: "b", UID: "u"}, events.Event{UID: "u", Start: 5}); replaced || old.Start != 0 {
		t.Errorf("P6: an event of another calendar took the place of %v, %t", old, replaced)
	}
	for start := 2; start < 5; start++ {
		if old, replaced := c.Put(key, events.Event{UID: "u", Start: start}); !replaced || old.Start != start-1 {
			t.Errorf("P6: it took the place of %v, %t, want %d", old, replaced, start-1)
		}
	}
	if old := c.Drop(key); old.Start != 4 {
		t.Errorf("P6: %v was dropped", old)
	}
}

func TestAll(t *testing.T) {
	c := New()
	want := map[Key]int{{"a", "u"}: 1, {"a", "v"}: 2, {"b", "u"}: 3}
	for key, start := range want {
		c.Put(key, events.Event{UID: key.UID, Start: start})
	}
	got := map[Key]int{}
	for key, event := range c.All() {
		got[key] = event.Start
	}
	if !maps.Equal(got, want) {
		t.Errorf("P7: all events are %v, want %v", got, want)
	}
}

func TestEventsAreToldOnlyAsFarAsAsked(t *testing.T) {
	c := New()
	put(c, "a", "u", 1)
	put(c, "a", "v", 2)
	told := 0
	for range c.Events([]string{"a"}) {
		told++
		break
	}
	if told != 1 {
		t.Errorf("%d events were told", told)
	}
}

func TestRoom(t *testing.T) {
	c := New()
	for i := range api.MaxCalendars {
		is(t, "P6: Put", put(c, "c"+strconv.Itoa(i), "u", i), api.OK)
	}
	is(t, "P6: one calendar more", put(c, "d", "u", 0), api.ErrFull)
	is(t, "P6: one calendar more", need(c, "d"), api.ErrNone)
	for i := api.MaxCalendars; i < api.MaxEvents; i++ {
		is(t, "P6: Put", put(c, "c0", "u"+strconv.Itoa(i), i), api.OK)
	}
	is(t, "P6: one event more", put(c, "c0", "v", 0), api.ErrFull)
	is(t, "P6: Put again", put(c, "c0", "u", 100), api.OK)
	is(t, "P6: Drop", drop(c, "c1", "u"), api.OK)
	is(t, "P6: Put", put(c, "c0", "v", 0), api.OK)
	is(t, "P6: one calendar more, where one is empty", put(c, "d", "u", 0), api.ErrFull)
}

// A new calendar is not there, if its event finds no room.
func TestRefusedCalendars(t *testing.T) {
	c := New()
	for i := range api.MaxEvents {
		is(t, "P6: Put", put(c, "c", "u"+strconv.Itoa(i), i), api.OK)
	}
	is(t, "P6: one event more", put(c, "d", "u", 0), api.ErrFull)
	is(t, "P6: its calendar", need(c, "d"), api.ErrNone)
	is(t, "P6: Drop", drop(c, "c", "u0"), api.OK)
	is(t, "P6: Put", put(c, "d", "u", 0), api.OK)
	is(t, "P6: its calendar", need(c, "d"), api.OK)
}

func TestNeed(t *testing.T) {
	c := New()
	put(c, "a", "u", 1)
	put(c, "b", "u", 1)
	for _, list := range []struct {
		names []string
		want  api.Errno
	}{
		{nil, api.ErrName}, {make([]string, api.MaxCalendars+1), api.ErrName}, {[]string{"a", "a"}, api.ErrName}, {[]string{"b", "a", "b"}, api.ErrName}, {[]string{"x", "a", "a"}, api.ErrName},
		{[]string{"x"}, api.ErrNone}, {[]string{"a", "x"}, api.ErrNone}, {[]string{"x", "a"}, api.ErrNone}, {[]string{""}, api.ErrNone},
		{[]string{"a"}, api.OK}, {[]string{"b", "a"}, api.OK},
	} {
		is(t, "P8: Need", need(c, list.names...), list.want)
	}
}

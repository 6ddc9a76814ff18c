// Package calendars: calendars of events, as a server keeps them.
package calendars

import (
	"iter"
	"maps"
	"slices"

	"fallow/api"
	"fallow/events"
	"fallow/giveup"
)

// Key is what an event is found by: events of two calendars may have the same UID.
type Key struct {
	Calendar, UID string
}

// Calendars are the names of those that are there, also of those without an event, and the events of all of them.
type Calendars struct {
	names  []string
	events map[Key]events.Event
}

// New makes calendars, of which none is there.
func New() *Calendars {
	return &Calendars{events: map[Key]events.Event{}}
}

// Put puts an event with the key's UID into the key's calendar; it gives up with ErrFull, if there is no room for it.
// It tells the event with this key whose place it takes, if there is one.
func (c *Calendars) Put(key Key, event events.Event) (old events.Event, replaced bool) {
	known := slices.Contains(c.names, key.Calendar)
	giveup.Unless(known || len(c.names) < api.MaxCalendars, api.ErrFull)
	old, replaced = c.events[key]
	giveup.Unless(replaced || len(c.events) < api.MaxEvents, api.ErrFull)
	if !known {
		c.names = append(c.names, key.Calendar)
	}
	c.events[key] = event
	return old, replaced
}

// Drop takes an event out of its calendar, which stays, and tells it; it gives up with ErrNone, if there is no such
// event.
func (c *Calendars) Drop(key Key) events.Event {
	event, there := c.events[key]
	giveup.Unless(there, api.ErrNone)
	delete(c.events, key)
	return event
}

// Need gives up with ErrName, if there are no names, too many or one twice, and with ErrNone, if one of the calendars
// is not there.
func (c *Calendars) Need(names []string) {
	giveup.Unless(1 <= len(names) && len(names) <= api.MaxCalendars, api.ErrName)
	for place, name := range names {
		giveup.Unless(!slices.Contains(names[:place], name), api.ErrName)
	}
	for _, name := range names {
		giveup.Unless(slices.Contains(c.names, name), api.ErrNone)
	}
}

// All tells the events of all calendars, in no order.
func (c *Calendars) All() iter.Seq2[Key, events.Event] {
	return maps.All(c.events)
}

// Events tells the events of these calendars, in no order.
func (c *Calendars) Events(names []string) iter.Seq[events.Event] {
	return func(yield func(event events.Event) bool) {
		for key, event := range c.events {
			if slices.Contains(names, key.Calendar) && !yield(event) {
				return
			}
		}
	}
}

// Package index: the instances that begin ahead of the horizon, kept so that they need not be worked out again.
package index

import (
	"iter"

	"fallow/api"
	"fallow/calendars"
	"fallow/events"
	"fallow/freebusy"
)

// Index has every instance that begins ahead of the horizon, of the events that make somebody busy, at most MaxIndex.
type Index struct {
	root    *node
	count   int
	horizon int
}

// New makes an index without an instance, with the horizon 0.
func New() *Index {
	return &Index{}
}

// Count tells how many instances the index has.
func (i *Index) Count() int {
	return i.count
}

// Horizon is the time ahead of which the index has all instances.
func (i *Index) Horizon() int {
	return i.horizon
}

// Put puts an event's instances in. Where there is no room for them the horizon becomes 0: nothing begins ahead of it.
func (i *Index) Put(key calendars.Key, event events.Event) {
	if !i.add(entries(key, event, 0, i.horizon)) {
		i.setBack(0)
	}
}

// Drop takes the instances of an event out that was put in.
func (i *Index) Drop(key calendars.Key, event events.Event) {
	for entry := range entries(key, event, 0, i.horizon) {
		i.drop(entry)
	}
}

// Move makes another time the horizon, where there is room for the instances of all events that begin ahead of it.
// It tells whether there is; if not, nothing has changed.
func (i *Index) Move(time int, all iter.Seq2[calendars.Key, events.Event]) bool {
	if time <= i.horizon {
		i.setBack(time)
		return true
	}
	if !i.add(entriesOfAll(all, i.horizon, time)) {
		return false
	}
	i.horizon = time
	return true
}

// Overlapping tells the instances in the index that overlap the window, in order of begin.
func (i *Index) Overlapping(from int, to int) iter.Seq[Entry] {
	return func(yield func(entry Entry) bool) {
		i.root.overlapping(from, to, yield)
	}
}

// add puts entries in, all of them or, where there is no room for all, none. It tells whether there is room.
func (i *Index) add(entries iter.Seq[Entry]) bool {
	room := api.MaxIndex - i.count
	var added []Entry
	for entry := range entries {
		// A rule may go on to LastYear: it is not worked out further than the index has room.
		if len(added) == room {
			return false
		}
		added = append(added, entry)
	}
	for _, entry := range added {
		i.root = i.root.put(entry)
	}
	i.count += len(added)
	return true
}

func (i *Index) drop(entry Entry) {
	i.root = i.root.drop(entry)
	i.count--
}

// setBack makes a time the horizon that is not behind it.
func (i *Index) setBack(time int) {
	for i.root != nil {
		last := i.root.last().Entry
		if last.Begin < time {
			break
		}
		i.drop(last)
	}
	i.horizon = time
}

// entries tells the event's instances that begin from the time from on, ahead of to, if it makes somebody busy.
func entries(key calendars.Key, event events.Event, from int, to int) iter.Seq[Entry] {
	return func(yield func(entry Entry) bool) {
		kind := freebusy.KindOf(event)
		if kind == freebusy.Free {
			return
		}
		for instance := range event.Instances(from, to) {
			if !yield(Entry{Span: instance, Key: key, Kind: kind}) {
				return
			}
		}
	}
}

func entriesOfAll(all iter.Seq2[calendars.Key, events.Event], from int, to int) iter.Seq[Entry] {
	return func(yield func(entry Entry) bool) {
		for key, event := range all {
			for entry := range entries(key, event, from, to) {
				if !yield(entry) {
					return
				}
			}
		}
	}
}

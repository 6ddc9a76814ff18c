package fallow

import (
	"slices"

	"fallow/api"
	"fallow/calendars"
	"fallow/events"
	"fallow/freebusy"
	"fallow/giveup"
	"fallow/words"
)

func (s *Server) put(calendar string, text string) {
	name := words.Name(calendar, api.ErrName)
	event := events.Read(text)
	key := calendars.Key{Calendar: name, UID: event.UID}
	old, replaced := s.calendars.Put(key, event)
	if replaced {
		s.index.Drop(key, old)
	}
	s.index.Put(key, event)
}

func (s *Server) drop(calendar string, uid string) {
	key := calendars.Key{Calendar: calendar, UID: uid}
	s.index.Drop(key, s.calendars.Drop(key))
}

func (s *Server) moveHorizon(time int) {
	giveup.Unless(isTime(time), api.ErrTime)
	giveup.Unless(s.index.Move(time, s.calendars.All()), api.ErrFull)
}

func (s *Server) busy(names []string, from int, to int) string {
	needWindow(from, to)
	s.calendars.Need(names)
	sheet := freebusy.New(from, to)
	if s.indexGoesTo(to) {
		s.coverFromIndex(sheet, names, from, to)
	} else {
		s.coverFromRules(sheet, names, from, to)
	}
	return sheet.Text()
}

// indexGoesTo tells whether the index goes as far as a time: it is let go there, if it has the room.
func (s *Server) indexGoesTo(time int) bool {
	return time <= s.index.Horizon() || s.index.Move(time, s.calendars.All())
}

func (s *Server) coverFromIndex(sheet *freebusy.Sheet, names []string, from int, to int) {
	for entry := range s.index.Overlapping(from, to) {
		if slices.Contains(names, entry.Key.Calendar) {
			sheet.Cover(entry.Kind, entry.Span)
		}
	}
}

func (s *Server) coverFromRules(sheet *freebusy.Sheet, names []string, from int, to int) {
	for event := range s.calendars.Events(names) {
		kind := freebusy.KindOf(event)
		if kind == freebusy.Free {
			continue
		}
		for instance := range event.Overlapping(from, to) {
			sheet.Cover(kind, instance)
		}
	}
}

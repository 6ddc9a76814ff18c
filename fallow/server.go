package fallow

import (
	"fallow/api"
	"fallow/events"
	"fallow/freebusy"
	"fallow/words"
)

func (s *Server) put(calendar string, text string) {
	name := words.Name(calendar, api.ErrName)
	event := events.Read(text)
	s.calendars.Put(name, event)
}

func (s *Server) busy(names []string, from int, to int) string {
	needWindow(from, to)
	s.calendars.Need(names)
	sheet := freebusy.New(from, to)
	for event := range s.calendars.Events(names) {
		kind := freebusy.KindOf(event)
		if kind == freebusy.Free {
			continue
		}
		for instance := range event.Overlapping(from, to) {
			sheet.Cover(kind, instance)
		}
	}
	return sheet.Text()
}

// Package fallow: when is nobody busy? See DOC.md.
package fallow

import (
	"fallow/api"
	"fallow/calendars"
	"fallow/events"
	"fallow/giveup"
	"fallow/index"
)

// Server is calendars of events.
type Server struct {
	calendars *calendars.Calendars
	index     *index.Index
}

// Check prints an event (P4).
func Check(event string) (string, api.Errno) {
	return giveup.Answer(func() string { return events.Read(event).Text() })
}

// Instances tells an event's instances in a window (P5).
func Instances(event string, from int, to int) ([]api.Span, api.Errno) {
	return giveup.Answer(func() []api.Span { return instances(event, from, to) })
}

// New makes a server.
func New() *Server {
	return &Server{calendars: calendars.New(), index: index.New()}
}

// Put puts an event into a calendar (P6).
func (s *Server) Put(calendar string, event string) api.Errno {
	return giveup.Outcome(func() { s.put(calendar, event) })
}

// Drop takes an event out of a calendar (P6).
func (s *Server) Drop(calendar string, uid string) api.Errno {
	return giveup.Outcome(func() { s.drop(calendar, uid) })
}

// Horizon sets how far the index goes (P7).
func (s *Server) Horizon(time int) api.Errno {
	return giveup.Outcome(func() { s.moveHorizon(time) })
}

// Busy tells when calendars are busy (P8).
func (s *Server) Busy(calendars []string, from int, to int) (string, api.Errno) {
	return giveup.Answer(func() string { return s.busy(calendars, from, to) })
}

// Cached tells how many instances are in the index (P7).
func (s *Server) Cached() int {
	return s.index.Count()
}

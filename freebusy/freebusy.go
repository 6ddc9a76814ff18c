// Package freebusy: when it is busy in a window, and how this is told.
package freebusy

import (
	"cmp"
	"slices"

	"fallow/api"
	"fallow/events"
	"fallow/when"
	"fallow/words"
)

// Kind is what an instance makes of the seconds it covers.
type Kind int

const (
	Free Kind = iota
	Tentative
	Busy
)

// Sheet is a window and what covers it.
type Sheet struct {
	from, to int
	edges    []edge
}

// edge is a time from which on more instances of a kind cover the window, or less.
type edge struct {
	time int
	kind Kind
	more int
}

// stretch is a greatest span of seconds that are all of one kind.
type stretch struct {
	api.Span
	kind Kind
}

// KindOf is the kind of an event's instances.
func KindOf(event events.Event) Kind {
	switch {
	case event.Transparent || event.Status == events.Cancelled:
		return Free
	case event.Status == events.Tentative:
		return Tentative
	default:
		return Busy
	}
}

// New makes the sheet of a window that nothing covers.
func New(from int, to int) *Sheet {
	return &Sheet{from: from, to: to}
}

// Cover lays an instance that overlaps the window over it.
func (s *Sheet) Cover(kind Kind, instance api.Span) {
	s.edges = append(s.edges,
		edge{time: max(instance.Begin, s.from), kind: kind, more: 1},
		edge{time: min(instance.End, s.to), kind: kind, more: -1})
}

// Text tells the window, and when it is not free.
func (s *Sheet) Text() string {
	lines := []string{
		"BEGIN:VFREEBUSY",
		"DTSTART:" + timeText(s.from),
		"DTEND:" + timeText(s.to),
	}
	for _, stretch := range s.stretches() {
		lines = append(lines, stretch.line())
	}
	return words.Text(append(lines, "END:VFREEBUSY"))
}

// stretches are those that are not free, in order: a new one begins where the kind changes.
func (s *Sheet) stretches() []stretch {
	slices.SortFunc(s.edges, func(a edge, b edge) int { return cmp.Compare(a.time, b.time) })
	var stretches []stretch
	var covering [Busy + 1]int
	begin, kind := s.from, Free
	for place, edge := range s.edges {
		covering[edge.kind] += edge.more
		next := place + 1
		// Where one instance ends and another one begins nothing lies between: only all edges of a time tell the kind.
		if next < len(s.edges) && s.edges[next].time == edge.time {
			continue
		}
		changed := strongest(covering)
		if changed == kind {
			continue
		}
		if kind != Free {
			stretches = append(stretches, stretch{Span: api.Span{Begin: begin, End: edge.time}, kind: kind})
		}
		begin, kind = edge.time, changed
	}
	return stretches
}

// strongest is the kind that counts, where there are so many instances of each.
func strongest(covering [Busy + 1]int) Kind {
	switch {
	case covering[Busy] > 0:
		return Busy
	case covering[Tentative] > 0:
		return Tentative
	default:
		return Free
	}
}

func (s stretch) line() string {
	name := "BUSY"
	if s.kind == Tentative {
		name = "BUSY-TENTATIVE"
	}
	return "FREEBUSY;FBTYPE=" + name + ":" + timeText(s.Begin) + "/" + timeText(s.End)
}

// timeText leaves the error out: a window's times, and what lies between them, are times.
func timeText(time int) string {
	text, _ := when.Print(time)
	return text
}

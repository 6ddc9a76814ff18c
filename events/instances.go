package events

import (
	"iter"
	"slices"

	"fallow/api"
	"fallow/days"
)

// Overlapping tells the event's instances that overlap the window: also those that begin ahead of it and reach into it.
func (e Event) Overlapping(from int, to int) iter.Seq[api.Span] {
	return e.Instances(from-e.Length+1, to)
}

// Instances tells the event's instances that begin from the time from on, ahead of to, in order.
func (e Event) Instances(from int, to int) iter.Seq[api.Span] {
	return func(yield func(instance api.Span) bool) {
		for begin := range merged(e.ruleBegins(from, to), e.extraBegins(from, to)) {
			if !yield(api.Span{Begin: begin, End: begin + e.Length}) {
				return
			}
		}
	}
}

// ruleBegins tells the rule's times, or the start alone, without EXDATE's.
func (e Event) ruleBegins(from int, to int) iter.Seq[int] {
	return func(yield func(begin int) bool) {
		out := e.daysOut()
		for day := range e.ruleDays(from, to) {
			if out[day] == 0 && !yield(day.Begin()+e.Start%days.Seconds) {
				return
			}
		}
	}
}

func (e Event) ruleDays(from int, to int) iter.Seq[days.Day] {
	if e.HasRule {
		return e.Rule.Days(e.Start, from, to)
	}
	return func(yield func(day days.Day) bool) {
		if from <= e.Start && e.Start < to {
			yield(days.OfTime(e.Start))
		}
	}
}

// daysOut counts by days the times of EXDATE that can be the rule's: those with the start's time of day, as all of
// the rule's times have it.
func (e Event) daysOut() map[days.Day]int {
	out := map[days.Day]int{}
	for _, time := range e.Except {
		if time%days.Seconds == e.Start%days.Seconds {
			out[days.OfTime(time)]++
		}
	}
	return out
}

// extraBegins are RDATE's times, without EXDATE's.
func (e Event) extraBegins(from int, to int) []int {
	var begins []int
	for _, time := range e.Extra {
		if max(e.Start, from) <= time && time < to && !slices.Contains(e.Except, time) {
			begins = append(begins, time)
		}
	}
	return begins
}

// merged tells the times of both, in order, each once; both are in order.
func merged(times iter.Seq[int], others []int) iter.Seq[int] {
	return func(yield func(time int) bool) {
		left := others
		for time := range times {
			for len(left) > 0 && left[0] < time {
				if !yield(left[0]) {
					return
				}
				left = left[1:]
			}
			if len(left) > 0 && left[0] == time {
				left = left[1:]
			}
			if !yield(time) {
				return
			}
		}
		for _, time := range left {
			if !yield(time) {
				return
			}
		}
	}
}

package fallow

import (
	"fallow/api"
	"fallow/events"
	"fallow/giveup"
	"fallow/when"
)

func instances(text string, from int, to int) []api.Span {
	event := events.Read(text)
	needWindow(from, to)
	var overlapping []api.Span
	count := 0
	for instance := range event.Instances(0, to) {
		count++
		giveup.Unless(count <= api.MaxSpans, api.ErrFull)
		if instance.End > from {
			overlapping = append(overlapping, instance)
		}
	}
	return overlapping
}

func needWindow(from int, to int) {
	giveup.Unless(isTime(from) && isTime(to) && from < to, api.ErrWindow)
}

func isTime(number int) bool {
	_, errno := when.Print(number)
	return errno == api.OK
}

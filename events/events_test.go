package events

import (
	"reflect"
	"strings"
	"testing"

	"fallow/api"
	"fallow/giveup"
	"fallow/rules"
)

func read(lines ...string) (Event, api.Errno) {
	text := strings.Join(append(lines, ""), "\r\n")
	return giveup.Answer(func() Event { return Read(text) })
}

func TestReadKeepsWhatTheEventSays(t *testing.T) {
	got, errno := read("BEGIN:VEVENT", "STATUS:TENTATIVE", "RDATE:19700101T000003Z", "TRANSP:TRANSPARENT",
		"EXDATE:19700101T000002Z,19700101T000001Z,19700101T000002Z", "RRULE:FREQ=DAILY",
		"DTEND:19700101T000110Z", "UID:a", "DTSTART:19700101T000010Z", "END:VEVENT")
	want := Event{
		UID: "a", Start: 10, Length: 60, HasRule: true, Rule: rules.Read("FREQ=DAILY"),
		Except: []int{1, 2}, Extra: []int{3}, Transparent: true, Status: Tentative,
	}
	if errno != api.OK || !reflect.DeepEqual(got, want) {
		t.Errorf("P4: Read = %+v, %d, want %+v", got, errno, want)
	}
}

func TestReadWithoutWhatMayBeMissing(t *testing.T) {
	got, errno := read("BEGIN:VEVENT", "UID:a", "DTSTART:19700101T000010Z", "DURATION:PT1M", "END:VEVENT")
	want := Event{UID: "a", Start: 10, Length: 60}
	if errno != api.OK || !reflect.DeepEqual(got, want) {
		t.Errorf("P4: Read = %+v, %d, want %+v", got, errno, want)
	}
}

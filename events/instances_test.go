package events

import (
	"slices"
	"testing"

	"fallow/api"
)

func event(t *testing.T, lines ...string) Event {
	t.Helper()
	all := append([]string{"BEGIN:VEVENT", "UID:a", "DTSTART:19700102T000010Z", "DURATION:PT5S"}, lines...)
	got, errno := read(append(all, "END:VEVENT")...)
	if errno != api.OK {
		t.Fatalf("P4: %v: %d", lines, errno)
	}
	return got
}

const second = 86410 // the start, and then each day

func TestInstances(t *testing.T) {
	for _, c := range []struct {
		lines []string
		end   int
		want  []int
	}{
		{nil, second + 1, []int{second}},
		{nil, second, nil},
		{[]string{"EXDATE:19700102T000010Z"}, 10 * second, nil},
		{[]string{"RDATE:19700101T000000Z,19700102T000009Z,19700102T000010Z,19700102T000011Z"}, second + 2, []int{second, second + 1}},
		{[]string{"RDATE:19700101T000000Z,19700102T000009Z,19700102T000010Z,19700102T000011Z"}, second + 1, []int{second}},
		{[]string{"RRULE:FREQ=DAILY", "EXDATE:19700103T000010Z,19700104T000011Z"}, second + 3*86400, []int{second, second + 2*86400}},
		{[]string{"RRULE:FREQ=DAILY;COUNT=2", "RDATE:19700103T000009Z,19700103T000010Z,19700103T000011Z"}, 10 * second, []int{second, second + 86399, second + 86400, second + 86401}},
	} {
		told := event(t, c.lines...).Instances(0, c.end)
		for range 2 {
			var begins []int
			for instance := range told {
				begins = append(begins, instance.Begin)
				if instance.End != instance.Begin+5 {
					t.Errorf("P5: %v: the instance %v is not as long as the event", c.lines, instance)
				}
			}
			if !slices.Equal(begins, c.want) {
				t.Errorf("P5: %v: Instances(%d) begin at %v, want %v", c.lines, c.end, begins, c.want)
			}
		}
	}
}

func TestInstancesAreToldOnlyAsFarAsAsked(t *testing.T) {
	busy := event(t, "RRULE:FREQ=DAILY;COUNT=3", "RDATE:19700102T000011Z,19700104T000011Z,19700104T000012Z")
	whole := slices.Collect(busy.Instances(0, 10*second))
	if len(whole) != 6 {
		t.Errorf("P5: the instances are %v, want six", whole)
	}
	for most := range whole {
		var told []api.Span
		for instance := range busy.Instances(0, 10*second) {
			told = append(told, instance)
			if len(told) > most {
				break
			}
		}
		if !slices.Equal(told, whole[:most+1]) {
			t.Errorf("P5: %d of the instances are %v, want %v", most+1, told, whole[:most+1])
		}
	}
}

func TestInstancesFromATimeOn(t *testing.T) {
	for _, lines := range [][]string{
		nil,
		{"RDATE:19700102T000012Z,19700103T000000Z"},
		{"RRULE:FREQ=DAILY;COUNT=3"},
		{"RRULE:FREQ=DAILY;COUNT=4", "EXDATE:19700103T000010Z", "RDATE:19700102T000011Z,19700105T000009Z"},
		{"RRULE:FREQ=DAILY;INTERVAL=2", "RDATE:19700103T000010Z"},
	} {
		told := event(t, lines...)
		whole := slices.Collect(told.Instances(0, 5*second))
		for _, instance := range whole {
			for from := instance.Begin - 7; from < instance.Begin+7; from++ {
				want := slices.DeleteFunc(slices.Clone(whole), func(instance api.Span) bool { return instance.Begin < from })
				if got := slices.Collect(told.Instances(from, 5*second)); !slices.Equal(got, want) {
					t.Errorf("P8: %v: Instances(%d) = %v, want %v", lines, from, got, want)
				}
				want = slices.DeleteFunc(slices.Clone(whole), func(instance api.Span) bool { return instance.End <= from })
				if got := slices.Collect(told.Overlapping(from, 5*second)); !slices.Equal(got, want) {
					t.Errorf("P8: %v: Overlapping(%d) = %v, want %v", lines, from, got, want)
				}
			}
		}
	}
}

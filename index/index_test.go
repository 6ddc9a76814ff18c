package index

import (
	"maps"
	"slices"
	"strconv"
	"testing"

	"fallow/api"
	"fallow/calendars"
	"fallow/events"
	"fallow/freebusy"
	"fallow/rules"
)

const day = 86400

type all map[calendars.Key]events.Event

func key(uid string) calendars.Key {
	return calendars.Key{Calendar: "c", UID: uid}
}

func daily(start int) events.Event {
	return events.Event{Start: start, Length: 10, HasRule: true, Rule: rules.Read("FREQ=DAILY")}
}

// has fails, if the index has not just the instances of these events, or another horizon. It looks at the tree, too.
func has(t *testing.T, i *Index, horizon int, all all) {
	t.Helper()
	var want []Entry
	for key, event := range all {
		if kind := freebusy.KindOf(event); kind != freebusy.Free {
			for instance := range event.Instances(0, horizon) {
				want = append(want, Entry{Span: instance, Key: key, Kind: kind})
			}
		}
	}
	if i.Horizon() != horizon || i.Count() != len(want) {
		t.Fatalf("P7: the index has %d instances ahead of %d, want %d ahead of %d", i.Count(), i.Horizon(), len(want), horizon)
	}
	keeps(t, i.root, want)
}

func moves(t *testing.T, i *Index, time int, all all, want bool) {
	t.Helper()
	if got := i.Move(time, maps.All(all)); got != want {
		t.Fatalf("P7: Move(%d) = %t, want %t", time, got, want)
	}
}

func TestPutAndDropAheadOfTheHorizon(t *testing.T) {
	i := New()
	there := all{}
	has(t, i, 0, there)
	moves(t, i, 10*day, there, true)
	has(t, i, 10*day, there)
	for place, event := range []events.Event{
		daily(5), daily(5), daily(10*day - 1), daily(10 * day),
		{Start: 3 * day, Length: 1},
		{Start: 3 * day, Length: api.MaxLength, Status: events.Tentative, Except: []int{3 * day}, Extra: []int{4 * day, 10*day - 1, 10 * day}},
		{Start: 3 * day, Length: 1, Status: events.Cancelled},
		{Start: 3 * day, Length: 1, Transparent: true},
	} {
		there[key(strconv.Itoa(place))] = event
		i.Put(key(strconv.Itoa(place)), event)
		has(t, i, 10*day, there)
	}
	for place := range len(there) {
		event := there[key(strconv.Itoa(place))]
		delete(there, key(strconv.Itoa(place)))
		i.Drop(key(strconv.Itoa(place)), event)
		has(t, i, 10*day, there)
	}
}

func TestMove(t *testing.T) {
	i := New()
	there := all{key("a"): daily(0), key("b"): daily(3 * day), key("c"): {Start: 5 * day, Length: 1, Transparent: true}}
	for key, event := range there {
		i.Put(key, event)
		has(t, i, 0, nil)
	}
	for _, time := range []int{1, day, day + 1, 3 * day, 3*day + 1, 3*day + 1, 100 * day, 50*day + 1, 50 * day, 50*day - 1, 3*day + 1, 3 * day, 1, 0, 20 * day, 0, 0} {
		moves(t, i, time, there, true)
		has(t, i, time, there)
	}
}

func TestRoom(t *testing.T) {
	i := New()
	there := all{key("a"): daily(0)}
	moves(t, i, api.MaxIndex*day, there, true)
	has(t, i, api.MaxIndex*day, there)
	moves(t, i, api.MaxIndex*day+1, there, false)
	has(t, i, api.MaxIndex*day, there)
	// What takes another's place is put where there is room again.
	i.Drop(key("a"), there[key("a")])
	i.Put(key("a"), there[key("a")])
	has(t, i, api.MaxIndex*day, there)
	there[key("b")] = daily(api.MaxIndex * day)
	i.Put(key("b"), there[key("b")])
	has(t, i, api.MaxIndex*day, there)
	there[key("c")] = daily(api.MaxIndex*day - 1)
	i.Put(key("c"), there[key("c")])
	has(t, i, 0, there)
	moves(t, i, api.MaxIndex*day, there, false)
	has(t, i, 0, there)
	moves(t, i, api.MaxIndex*day-1, there, true)
	has(t, i, api.MaxIndex*day-1, there)
}

func TestNothingIsWorkedOutForWhichThereIsNoRoom(t *testing.T) {
	i := New()
	moves(t, i, day, all{}, true)
	asked := 0
	many := func(yield func(key calendars.Key, event events.Event) bool) {
		for asked < 10*api.MaxIndex && yield(key(strconv.Itoa(asked)), daily(0)) {
			asked++
		}
	}
	if i.Move(2*day, many) || asked != api.MaxIndex {
		t.Errorf("P7: there was room for %d instances, want %d", asked, api.MaxIndex)
	}
	has(t, i, day, all{})
}

func TestOverlapping(t *testing.T) {
	i := New()
	there := all{key("a"): daily(0), key("b"): {Start: 0, Length: 3*day + 1, Status: events.Tentative}}
	moves(t, i, 5*day, there, true)
	told := slices.Collect(i.Overlapping(3*day, 4*day+1))
	want := []Entry{
		{Span: api.Span{Begin: 0, End: 3*day + 1}, Key: key("b"), Kind: freebusy.Tentative},
		{Span: api.Span{Begin: 3 * day, End: 3*day + 10}, Key: key("a"), Kind: freebusy.Busy},
		{Span: api.Span{Begin: 4 * day, End: 4*day + 10}, Key: key("a"), Kind: freebusy.Busy},
	}
	if !slices.Equal(told, want) {
		t.Errorf("P8: %v, want %v", told, want)
	}
	for range i.Overlapping(0, 5*day) {
		break
	}
}

package fallow

import (
	"math/rand"
	"slices"
	"strconv"
	"strings"
	"testing"

	"fallow/api"
)

// painted lays the spans over the window, kind by kind, and writes what is to be seen, as freeBusy takes it.
func painted(from int, to int, covers map[byte][]api.Span) string {
	edges := []int{from, to}
	for _, spans := range covers {
		for _, span := range spans {
			edges = append(edges, max(from, span.Begin), min(to, span.End))
		}
	}
	slices.Sort(edges)
	edges = slices.Compact(edges)
	kinds := make([]byte, len(edges)) // from one edge on, ahead of the next one
	for _, kind := range []byte("TB") {
		for _, span := range covers[kind] {
			first, _ := slices.BinarySearch(edges, span.Begin)
			for i := first; i < len(edges)-1 && edges[i] < span.End; i++ {
				kinds[i] = kind
			}
		}
	}
	var texts []string
	for i := 0; i < len(edges)-1; {
		next := i + 1
		for next < len(edges)-1 && kinds[next] == kinds[i] {
			next++
		}
		if kinds[i] != 0 {
			texts = append(texts, span(kinds[i], edges[i], edges[next]))
		}
		i = next
	}
	return strings.Join(texts, " ")
}

func TestPainted(t *testing.T) {
	covers := map[byte][]api.Span{'B': {{Begin: 0, End: 12}, {Begin: 12, End: 13}, {Begin: 30, End: 99}}, 'T': {{Begin: 11, End: 20}}, 'F': {{Begin: 15, End: 25}}}
	if got := painted(10, 40, covers); got != "B10-13 T13-20 B30-40" {
		t.Errorf("painted: %s", got)
	}
}

// TestSecondsOfTheWindow looks at each second alone.
func TestSecondsOfTheWindow(t *testing.T) {
	d := rand.New(rand.NewSource(8))
	for range 1000 {
		s := New()
		puts(t, s, "c0", lasting(t, "x", 1000, 1001), api.OK)
		puts(t, s, "c1", lasting(t, "x", 1000, 1001), api.OK)
		var seconds [60]byte
		for i := range 1 + d.Intn(8) {
			begin := d.Intn(50)
			end := begin + 1 + d.Intn(15)
			kind := "BTFC"[d.Intn(4)]
			line := map[byte]string{'B': "STATUS:CONFIRMED", 'T': "STATUS:TENTATIVE", 'F': "TRANSP:TRANSPARENT", 'C': "STATUS:CANCELLED"}[kind]
			puts(t, s, "c"+strconv.Itoa(i%2), lasting(t, strconv.Itoa(i), begin, end, line), api.OK)
			for second := begin; second < min(end, len(seconds)); second++ {
				if kind == 'B' || kind == 'T' && seconds[second] == 0 {
					seconds[second] = kind
				}
			}
		}
		from := d.Intn(30)
		to := from + 1 + d.Intn(len(seconds)-from-1)
		var texts []string
		for begin := from; begin < to; {
			end := begin
			for end < to && seconds[end] == seconds[begin] {
				end++
			}
			if seconds[begin] != 0 {
				texts = append(texts, span(seconds[begin], begin, end))
			}
			begin = end
		}
		tells(t, s, "c0 c1", from, to, strings.Join(texts, " "))
		if t.Failed() {
			return
		}
	}
}

// model is a server as the document has it, told in the plainest way.
type model struct {
	calendars map[string]map[string]kept
	horizon   int
}

// kept is an event's kind and its instances.
type kept struct {
	kind      byte
	instances []api.Span
}

// indexed counts the instances that the index has with a horizon.
func (m *model) indexed(horizon int) int {
	count := 0
	for _, calendar := range m.calendars {
		for _, event := range calendar {
			for _, instance := range event.instances {
				if event.kind != 'F' && instance.Begin < horizon {
					count++
				}
			}
		}
	}
	return count
}

func (m *model) put(calendar string, name string, event kept) api.Errno {
	count := 0
	for _, calendar := range m.calendars {
		count += len(calendar)
	}
	_, again := m.calendars[calendar][name]
	if m.calendars[calendar] == nil && len(m.calendars) == api.MaxCalendars || !again && count == api.MaxEvents {
		return api.ErrFull
	}
	if m.calendars[calendar] == nil {
		m.calendars[calendar] = map[string]kept{}
	}
	m.calendars[calendar][name] = event
	if m.indexed(m.horizon) > api.MaxIndex {
		m.horizon = 0
	}
	return api.OK
}

func (m *model) drop(calendar string, name string) api.Errno {
	if _, there := m.calendars[calendar][name]; !there {
		return api.ErrNone
	}
	delete(m.calendars[calendar], name)
	return api.OK
}

func (m *model) move(time int) api.Errno {
	if time < 0 || time > lastTime {
		return api.ErrTime
	}
	if m.indexed(time) > api.MaxIndex {
		return api.ErrFull
	}
	m.horizon = time
	return api.OK
}

func (m *model) covers(names []string, from int, to int) (map[byte][]api.Span, api.Errno) {
	covers := map[byte][]api.Span{}
	for _, name := range names {
		if m.calendars[name] == nil {
			return nil, api.ErrNone
		}
		for _, event := range m.calendars[name] {
			for _, instance := range event.instances {
				if instance.Begin < to && from < instance.End {
					covers[event.kind] = append(covers[event.kind], instance)
				}
			}
		}
	}
	if to > m.horizon && m.indexed(to) <= api.MaxIndex {
		m.horizon = to
	}
	return covers, api.OK
}

// pair is a server that goes through chance calls, beside its model.
type pair struct {
	server *Server
	model  model
	days   []seen
	begin  int  // the events lie about it
	dense  bool // many events come again each day: there are more instances than the index has room for
	// How often something came of MaxIndex: by Put, by Horizon, by Busy.
	emptied, refused, unmoved int
}

const modelDays = 120

// end is the time up to which the model knows the instances.
func (p *pair) end() int {
	return min(lastTime, p.begin+modelDays*86400)
}

func (p *pair) step(t *testing.T, d dice) {
	calendar := "c" + strconv.Itoa(d.Intn(api.MaxCalendars+2))
	name := "u" + strconv.Itoa(d.Intn(5))
	switch d.Intn(10) {
	case 0, 1, 2, 3:
		p.put(t, d, calendar, name)
	case 4:
		drops(t, p.server, calendar, name, p.model.drop(calendar, name))
	case 5, 6:
		p.move(t, d)
	default:
		p.ask(t, d)
	}
	indexed(t, p.server, p.model.horizon, p.model.indexed(p.model.horizon))
}

func (p *pair) put(t *testing.T, d dice, calendar string, name string) {
	m := d.made(t, name, max(0, min(lastTime, p.begin+(d.Intn(60)-30)*43200)))
	if p.dense && d.Intn(3) > 0 {
		m = m.ruled("FREQ=DAILY")
	}
	instances := m.instances(t, p.days, 0, p.end())
	before := p.model.horizon
	puts(t, p.server, calendar, m.text, p.model.put(calendar, name, kept{m.kind, instances}))
	if p.model.horizon < before {
		p.emptied++
	}
}

func (p *pair) move(t *testing.T, d dice) {
	times := []int{0, -1, lastTime + 1, p.end(), p.begin + d.Intn(modelDays*86400), p.begin + d.Intn(modelDays)*86400, p.begin - d.Intn(40*86400)}
	// A time at which an instance begins, or the one next to it.
	for _, calendar := range p.model.calendars {
		for _, event := range calendar {
			for _, instance := range event.instances {
				times = append(times, instance.Begin, instance.Begin+1)
			}
		}
	}
	slices.Sort(times)
	time := min(times[d.Intn(len(times))], p.end())
	errno := p.model.move(time)
	horizon(t, p.server, time, errno)
	if errno == api.ErrFull {
		p.refused++
	}
}

func (p *pair) ask(t *testing.T, d dice) {
	var names []string
	for _, i := range d.Perm(api.MaxCalendars + 2)[:1+d.Intn(4)] {
		names = append(names, "c"+strconv.Itoa(i))
	}
	from := max(0, min(lastTime-1, p.begin+(d.Intn(modelDays)-40)*86400+d.Intn(3)*30000))
	to := min(p.end(), from+1+d.Intn([]int{1000, 86400, 40 * 86400}[d.Intn(3)]))
	if from >= to {
		return
	}
	covers, errno := p.model.covers(names, from, to)
	if errno != api.OK {
		tellsErrno(t, p.server, names, from, to, errno)
		return
	}
	tells(t, p.server, strings.Join(names, " "), from, to, painted(from, to, covers))
	if p.model.horizon < to {
		p.unmoved++
	}
}

// Two servers go on in turns: neither tells anything of the other.
func TestServersAreAsTheDocumentsWords(t *testing.T) {
	days := table()
	d := dice{rand.New(rand.NewSource(6))}
	full, emptied, refused, unmoved := 0, 0, 0, 0
	for range 12 {
		var pairs [2]pair
		for i := range pairs {
			pairs[i] = pair{server: New(), model: model{calendars: map[string]map[string]kept{}}, days: days, begin: d.start(), dense: i > 0}
		}
		for range 400 {
			pairs[d.Intn(len(pairs))].step(t, d)
			if t.Failed() {
				return
			}
		}
		for _, p := range pairs {
			full += len(p.model.calendars) / api.MaxCalendars
			emptied, refused, unmoved = emptied+p.emptied, refused+p.refused, unmoved+p.unmoved
		}
	}
	if full < 12 {
		t.Errorf("%d servers had all their calendars: too few to tell", full)
	}
	if emptied < 20 || refused < 100 || unmoved < 100 {
		t.Errorf("MaxIndex emptied %d indexes, and left %d and %d horizons as they were: too few to tell", emptied, refused, unmoved)
	}
}

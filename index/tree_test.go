package index

import (
	"math"
	"math/rand"
	"slices"
	"strconv"
	"testing"

	"fallow/api"
	"fallow/calendars"
)

// sound tells the tree's entries from left to right. The test fails, if what a node knows is wrong, or if one of its
// sides is more than one higher than the other.
func sound(t *testing.T, n *node) []Entry {
	t.Helper()
	told, height, greatest := looked(t, n)
	if n.high() != height || n != nil && n.greatest != greatest {
		t.Fatalf("P7: the tree knows of itself %d, %d, want %d, %d", n.high(), n.greatest, height, greatest)
	}
	if !slices.IsSortedFunc(told, compare) {
		t.Fatalf("P7: the tree is not in order: %v", told)
	}
	return told
}

// looked tells the entries, the height and the greatest end, all counted anew.
func looked(t *testing.T, n *node) (told []Entry, height int, greatest int) {
	if n == nil {
		return nil, 0, math.MinInt
	}
	lefts, leftHeight, leftGreatest := looked(t, n.left)
	rights, rightHeight, rightGreatest := looked(t, n.right)
	height = 1 + max(leftHeight, rightHeight)
	greatest = max(n.End, leftGreatest, rightGreatest)
	if leftHeight-rightHeight < -1 || leftHeight-rightHeight > 1 {
		t.Fatalf("P7: the sides of %v have the heights %d and %d", n.Entry, leftHeight, rightHeight)
	}
	if n.height != height || n.greatest != greatest {
		t.Fatalf("P7: the node of %v knows %d, %d, want %d, %d", n.Entry, n.height, n.greatest, height, greatest)
	}
	return slices.Concat(lefts, []Entry{n.Entry}, rights), height, greatest
}

func entry(begin int, length int, calendar string, uid string) Entry {
	return Entry{Span: api.Span{Begin: begin, End: begin + length}, Key: calendars.Key{Calendar: calendar, UID: uid}}
}

// lined are so many entries in order; their ends are not.
func lined(count int) []Entry {
	var lined []Entry
	for i := range count {
		lined = append(lined, entry(10*i, 1+i*7919%1000, "c", "u"))
	}
	return lined
}

// keeps fails, if the tree has not just the entries of want, whose order does not matter.
func keeps(t *testing.T, n *node, want []Entry) {
	t.Helper()
	sorted := slices.SortedFunc(slices.Values(want), compare)
	if got := sound(t, n); !slices.Equal(got, sorted) {
		t.Fatalf("P7: the tree has %v, want %v", got, sorted)
	}
}

// goesThrough puts entries into a tree and drops them again, and looks at it each time.
func goesThrough(t *testing.T, puts []Entry, drops []Entry) {
	t.Helper()
	var root *node
	for i, entry := range puts {
		root = root.put(entry)
		keeps(t, root, puts[:i+1])
	}
	for i, entry := range drops {
		root = root.drop(entry)
		keeps(t, root, drops[i+1:])
	}
	if root != nil {
		t.Fatalf("P7: behind the last drop there is %v", root)
	}
}

// orders are all of the entries' orders.
func orders(entries []Entry) [][]Entry {
	if len(entries) == 0 {
		return [][]Entry{nil}
	}
	var all [][]Entry
	for i := range entries {
		for _, order := range orders(slices.Delete(slices.Clone(entries), i, i+1)) {
			all = append(all, append(order, entries[i]))
		}
	}
	return all
}

func TestEveryOrderOfFewPutsAndDrops(t *testing.T) {
	for count := range 6 {
		all := orders(lined(count))
		for _, puts := range all {
			for _, drops := range all {
				goesThrough(t, puts, drops)
			}
		}
	}
}

// Seven make a tree that is full; behind it a drop can ask for every kind of turn.
func TestEveryOrderOfDrops(t *testing.T) {
	puts := lined(7)
	for _, drops := range orders(puts) {
		goesThrough(t, puts, drops)
	}
}

// zigzag goes from both ends to the middle.
func zigzag(entries []Entry) []Entry {
	var order []Entry
	for first, last := 0, len(entries)-1; first <= last; first, last = first+1, last-1 {
		order = append(order, entries[first])
		if first < last {
			order = append(order, entries[last])
		}
	}
	return order
}

func turned(entries []Entry) []Entry {
	turned := slices.Clone(entries)
	slices.Reverse(turned)
	return turned
}

func TestManyPutsAndDrops(t *testing.T) {
	up := lined(200)
	mixed := slices.Clone(up)
	rand.New(rand.NewSource(1)).Shuffle(len(mixed), func(i, j int) { mixed[i], mixed[j] = mixed[j], mixed[i] })
	all := [][]Entry{up, turned(up), zigzag(up), turned(zigzag(up)), mixed}
	for _, puts := range all {
		for _, drops := range all {
			goesThrough(t, puts, drops)
		}
	}
}

// Where many begin at the same time it is the key that tells them from each other: both parts of it.
func TestEntriesThatBeginTogether(t *testing.T) {
	var entries []Entry
	for _, begin := range []int{7, 5, 6} {
		for _, calendar := range []string{"b", "a", "ab"} {
			for _, uid := range []string{"c", "bc", "a", "b"} {
				entries = append(entries, entry(begin, 1+len(entries), calendar, uid))
			}
		}
	}
	goesThrough(t, entries, entries)
	goesThrough(t, entries, turned(entries))
	goesThrough(t, zigzag(entries), entries)
}

// chance makes a tree grow and shrink in turns; look is asked behind each step, with the entries in order.
func chance(t *testing.T, seed int64, look func(d *rand.Rand, root *node, there []Entry)) {
	d := rand.New(rand.NewSource(seed))
	var root *node
	var there []Entry
	for step := range 4000 {
		made := entry(d.Intn(400), 1+d.Intn([]int{5, 50, 500}[d.Intn(3)]), "c"+strconv.Itoa(d.Intn(3)), "u"+strconv.Itoa(d.Intn(2)))
		place, known := slices.BinarySearchFunc(there, made, compare)
		switch growing := step/500%2 == 0; {
		case !known && (growing || d.Intn(5) == 0):
			root = root.put(made)
			there = slices.Insert(there, place, made)
		case known && (!growing || d.Intn(5) == 0):
			root = root.drop(made)
			there = slices.Delete(there, place, place+1)
		default:
			continue
		}
		keeps(t, root, there)
		look(d, root, there)
	}
}

func TestPutsAndDropsByChance(t *testing.T) {
	most := 0
	chance(t, 2, func(_ *rand.Rand, _ *node, there []Entry) { most = max(most, len(there)) })
	if most < 200 {
		t.Errorf("the tree had at most %d entries: too few to tell", most)
	}
}

// A balanced tree of so many entries cannot be higher: its height is less than 1.4405 times their logarithm.
func TestTheTreeIsNotHigh(t *testing.T) {
	for _, entries := range [][]Entry{lined(api.MaxIndex), turned(lined(api.MaxIndex)), zigzag(lined(api.MaxIndex))} {
		var root *node
		for i, entry := range entries {
			root = root.put(entry)
			if most := 1.4405 * math.Log2(float64(i+3)); float64(root.height) > most {
				t.Fatalf("P7: with %d entries the tree is %d high", i+1, root.height)
			}
		}
	}
}

func asked(n *node, from int, to int) []Entry {
	var told []Entry
	n.overlapping(from, to, func(entry Entry) bool {
		told = append(told, entry)
		return true
	})
	return told
}

// overlap are those of the entries that overlap the window.
func overlap(entries []Entry, from int, to int) []Entry {
	return slices.DeleteFunc(slices.Clone(entries), func(entry Entry) bool { return entry.Begin >= to || entry.End <= from })
}

func TestOverlappingAtTheEdges(t *testing.T) {
	var root *node
	if told := asked(root, 0, 100); told != nil {
		t.Errorf("P8: the empty tree tells %v", told)
	}
	root = root.put(entry(10, 5, "c", "u"))
	for window, want := range map[[2]int]int{{0, 10}: 0, {0, 11}: 1, {14, 20}: 1, {15, 20}: 0, {9, 10}: 0, {10, 11}: 1, {14, 15}: 1, {12, 13}: 1, {0, 100}: 1, {15, 16}: 0} {
		if told := asked(root, window[0], window[1]); len(told) != want {
			t.Errorf("P8: the window %v: %v, want %d", window, told, want)
		}
	}
}

func TestOverlappingByChance(t *testing.T) {
	told := 0
	chance(t, 3, func(d *rand.Rand, root *node, there []Entry) {
		for range 5 {
			from := d.Intn(600)
			to := from + 1 + d.Intn([]int{3, 60, 500}[d.Intn(3)])
			want := overlap(there, from, to)
			told += len(want)
			if got := asked(root, from, to); !slices.Equal(got, want) {
				t.Fatalf("P8: from %d to %d: %v, want %v", from, to, got, want)
			}
		}
	})
	if told < 10000 {
		t.Errorf("%d entries were told: too few to tell", told)
	}
}

// bait gives the nodes where nothing can be an entry that would be told, if somebody went there. It tells how many.
func bait(n *node, from int, to int, nothing bool) int {
	if n == nil {
		return 0
	}
	nothing = nothing || n.greatest <= from
	count := bait(n.left, from, to, nothing) + bait(n.right, from, to, nothing || n.Begin >= to)
	if nothing {
		n.Span = api.Span{Begin: from, End: to}
		count++
	}
	return count
}

func TestOverlappingDoesNotGoWhereNothingCanBe(t *testing.T) {
	baited := 0
	for from := -5; from < 2100; from += 5 {
		for _, to := range []int{from + 1, from + 100, from + 1000} {
			var root *node
			for i := range 200 {
				root = root.put(entry(10*i, 1+i*7%30, "c", "u"))
			}
			want := overlap(sound(t, root), from, to)
			baited += bait(root, from, to, false)
			if got := asked(root, from, to); !slices.Equal(got, want) {
				t.Fatalf("P7: from %d to %d: it was gone where nothing can be: %v, want %v", from, to, got, want)
			}
		}
	}
	if baited < 100000 {
		t.Errorf("%d nodes were left out: too few to tell", baited)
	}
}

func TestOverlappingEndsWhereNoMoreIsWanted(t *testing.T) {
	var root *node
	for _, entry := range lined(20) {
		root = root.put(entry)
	}
	whole := asked(root, 0, 1000)
	for most := 1; most <= len(whole); most++ {
		var told []Entry
		root.overlapping(0, 1000, func(entry Entry) bool {
			told = append(told, entry)
			return len(told) < most
		})
		if !slices.Equal(told, whole[:most]) {
			t.Errorf("P7: %d of the entries are %v, want %v", most, told, whole[:most])
		}
	}
}

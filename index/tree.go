package index

import (
	"cmp"

	"fallow/api"
	"fallow/calendars"
	"fallow/freebusy"
)

// Entry is an instance in the index: whose it is, and what it makes of the seconds it covers.
type Entry struct {
	api.Span
	Key  calendars.Key
	Kind freebusy.Kind
}

// node is a tree of entries, in order; nil is the empty one. The heights of its two sides differ by one at the most.
type node struct {
	Entry
	left, right *node
	height      int
	greatest    int // the greatest end in the tree: its own, or one below it
}

// compare orders entries by begin; no event has two of the same begin, so the key settles the rest.
func compare(a Entry, b Entry) int {
	return cmp.Or(
		cmp.Compare(a.Begin, b.Begin),
		cmp.Compare(a.Key.Calendar, b.Key.Calendar),
		cmp.Compare(a.Key.UID, b.Key.UID),
	)
}

// put is the tree with one entry more, which it does not have yet.
func (n *node) put(entry Entry) *node {
	if n == nil {
		return &node{Entry: entry, height: 1, greatest: entry.End}
	}
	if compare(entry, n.Entry) < 0 {
		n.left = n.left.put(entry)
	} else {
		n.right = n.right.put(entry)
	}
	return n.balanced()
}

// drop is the tree without an entry, which it has.
func (n *node) drop(entry Entry) *node {
	order := compare(entry, n.Entry)
	switch {
	case order < 0:
		n.left = n.left.drop(entry)
	case order > 0:
		n.right = n.right.drop(entry)
	case n.right == nil:
		return n.left
	default:
		n.Entry, n.right = n.right.takeFirst()
	}
	return n.balanced()
}

// takeFirst tells the first entry, and the tree without it.
func (n *node) takeFirst() (Entry, *node) {
	if n.left == nil {
		return n.Entry, n.right
	}
	first, left := n.left.takeFirst()
	n.left = left
	return first, n.balanced()
}

// last is the node of the last entry; the tree must have one.
func (n *node) last() *node {
	for n.right != nil {
		n = n.right
	}
	return n
}

// overlapping tells the entries that begin ahead of to and end behind from, in order. It answers whether yield wants
// more of them.
func (n *node) overlapping(from int, to int, yield func(entry Entry) bool) bool {
	if n == nil || n.greatest <= from {
		return true
	}
	if !n.left.overlapping(from, to, yield) {
		return false
	}
	// What lies to the right does not begin earlier.
	if n.Begin >= to {
		return true
	}
	if n.End > from && !yield(n.Entry) {
		return false
	}
	return n.right.overlapping(from, to, yield)
}

// balanced is the tree, put right: one of its sides was changed by one entry, and may now be two higher than the other.
func (n *node) balanced() *node {
	n.measure()
	switch lean := n.lean(); {
	case lean > 1:
		// A left side that leans to the right would only make the right side the higher one.
		if n.left.lean() < 0 {
			n.left = n.left.turnLeft()
		}
		return n.turnRight()
	case lean < -1:
		if n.right.lean() > 0 {
			n.right = n.right.turnRight()
		}
		return n.turnLeft()
	default:
		return n
	}
}

// turnLeft lifts the right side's node to the top.
func (n *node) turnLeft() *node {
	top := n.right
	n.right, top.left = top.left, n
	n.measure()
	top.measure()
	return top
}

// turnRight lifts the left side's node to the top.
func (n *node) turnRight() *node {
	top := n.left
	n.left, top.right = top.right, n
	n.measure()
	top.measure()
	return top
}

// measure works out what the node knows of the tree, from what its two sides know.
func (n *node) measure() {
	n.height = 1 + max(n.left.high(), n.right.high())
	n.greatest = n.End
	if n.left != nil {
		n.greatest = max(n.greatest, n.left.greatest)
	}
	if n.right != nil {
		n.greatest = max(n.greatest, n.right.greatest)
	}
}

// lean is how much higher the left side is than the right one.
func (n *node) lean() int {
	return n.left.high() - n.right.high()
}

func (n *node) high() int {
	if n == nil {
		return 0
	}
	return n.height
}

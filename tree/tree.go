// Package tree: the headers that are kept, the tip among them, and the final one.
package tree

import (
	"beacon/api"
	"beacon/ledger"
)

// noParent is the first header's. It is no header's number: a header of zeros
// alone that comes behind the first one is another one than that.
const noParent = -1

// Node is a header that is kept.
type Node struct {
	ID     int
	Parent int
	Height int
	Header api.Header
	Page   ledger.Page
}

// Tree is the headers that are kept, by rising numbers: the final one, which
// all others have in their lines, is the first of them.
type Tree struct {
	depth    int
	room     int
	accepted int
	kept     []Node
	// The numbers of the final header's line, itself not among them.
	past []int
}

// Begin tells a tree of the first header alone (P5).
func Begin(depth int, room int, page ledger.Page) (Tree, api.Errno) {
	if depth < 1 || depth > api.MaxDepth || room < 2 || room > api.MaxRoom {
		return Tree{}, api.ErrArg
	}
	first := Node{Parent: noParent, Page: page}
	return Tree{depth: depth, room: room, kept: []Node{first}}, api.OK
}

// Find tells a header that is kept, or why it is not (P7).
func (t *Tree) Find(id int) (Node, api.Errno) {
	for i := 0; i < len(t.kept); i++ {
		if t.kept[i].ID == id {
			return t.kept[i], api.OK
		}
	}
	for i := 0; i < len(t.past); i++ {
		if t.past[i] == id {
			return Node{}, api.ErrOld
		}
	}
	return Node{}, api.ErrNone
}

// Add accepts a header that is right behind its parent, if it is new and there
// is room (P7).
func (t *Tree) Add(parent Node, h api.Header, page ledger.Page) (int, api.Errno) {
	if t.has(parent.ID, h) {
		return 0, api.ErrTwice
	}
	if len(t.kept) >= t.room {
		return 0, api.ErrFull
	}
	t.accepted++
	t.kept = append(t.kept, Node{ID: t.accepted, Parent: parent.ID, Height: parent.Height + 1, Header: h, Page: page})
	t.settle()
	return t.accepted, api.OK
}

func (t *Tree) has(parent int, h api.Header) bool {
	for i := 0; i < len(t.kept); i++ {
		if t.kept[i].Parent == parent && t.kept[i].Header == h {
			return true
		}
	}
	return false
}

// settle tells anew what is final, and drops what does not have it in its line
// (P9). The final header moves by one step at most: the tip never gets higher
// by more than one.
func (t *Tree) settle() {
	final := t.deepest()
	old := t.kept[0].ID
	if final.ID == old {
		return
	}
	t.past = append(t.past, old)
	t.kept = t.keptWith(final)
}

// deepest tells the header in the tip's line that is depth steps away, or the
// first one, which has no parent to be found.
func (t *Tree) deepest() Node {
	at := t.tip()
	for step := 0; step < t.depth; step++ {
		parent, err := t.Find(at.Parent)
		if err != api.OK {
			return at
		}
		at = parent
	}
	return at
}

// tip tells the highest header, and of several the one with the least number,
// since they are kept by rising numbers (P9).
func (t *Tree) tip() Node {
	best := t.kept[0]
	for i := 1; i < len(t.kept); i++ {
		if t.kept[i].Height > best.Height {
			best = t.kept[i]
		}
	}
	return best
}

// keptWith tells the headers that have the final one in their line. A parent
// has a lower number than its children, so that one walk meets it first.
func (t *Tree) keptWith(final Node) []Node {
	left := []Node{final}
	for i := 0; i < len(t.kept); i++ {
		if isAmong(left, t.kept[i].Parent) {
			left = append(left, t.kept[i])
		}
	}
	return left
}

func isAmong(nodes []Node, id int) bool {
	for i := 0; i < len(nodes); i++ {
		if nodes[i].ID == id {
			return true
		}
	}
	return false
}

// Package tree: the headers that are kept, the tip among them, and the final one.
package tree

import (
	"beacon/api"
	"beacon/ledger"
)

// noParent is the first header's. It is no header's number: a header of zeros
// alone that comes behind the first one is another one than that.
const noParent = -1

// Node is a header that is kept.
type Node struct {
	ID     int
	Parent int
	Height int
	Header api.Header
	Page   ledger.Page
}

// Tree is the headers that are kept, by rising numbers: the final one, which
// all others have in their lines, is the first of them.
type Tree struct {
	depth    int
	room     int
	accepted int
	kept     []Node
	// The numbers of the final header's line, itself not among them.
	past []int
}

// Begin tells a tree of the first header alone (P5).
func Begin(depth int, room int, page ledger.Page) (Tree, api.Errno) {
	if depth < 1 || depth > api.MaxDepth || room < 2 || room > api.MaxRoom {
		return Tree{}, api.ErrArg
	}
	first := Node{Parent: noParent, Page: page}
	return Tree{depth: depth, room: room, kept: []Node{first}}, api.OK
}

// Find tells a header that is kept, or why it is not (P7).
func (t *Tree) Find(id int) (Node, api.Errno) {
	for i := 0; i < len(t.kept); i++ {
		if t.kept[i].ID == id {
			return t.kept[i], api.OK
		}
	}
	for i := 0; i < len(t.past); i++ {
		if t.past[i] == id {
			return Node{}, api.ErrOld
		}
	}
	return Node{}, api.ErrNone
}

// Look tells a header that is kept (P8). Callers know the first header's parent
// as 0.
func (t *Tree) Look(id int) (api.Block, api.Errno) {
	node, err := t.Find(id)
	if err != api.OK {
		return api.Block{}, err
	}
	block := api.Block{Header: node.Header, Parent: node.Parent, Height: node.Height}
	if node.Parent == noParent {
		block.Parent = 0
	}
	return block, api.OK
}

// Kept tells the numbers of all that are kept, rising (P8).
func (t *Tree) Kept() []int {
	list := []int{}
	for i := 0; i < len(t.kept); i++ {
		list = append(list, t.kept[i].ID)
	}
	return list
}

// Tip tells the number of the highest header that is kept (P9).
func (t *Tree) Tip() int {
	return t.highest().ID
}

// Final tells the number of the final header (P9). A tree that Begin did not
// make has no header at all.
func (t *Tree) Final() int {
	if len(t.kept) == 0 {
		return 0
	}
	return t.kept[0].ID
}

// Path tells the tip's line, from 0 on (P9). The final header is in it, so that
// the numbers that are past are its beginning.
func (t *Tree) Path() []int {
	path := []int{}
	for i := 0; i < len(t.past); i++ {
		path = append(path, t.past[i])
	}
	falling := t.lineDown()
	for i := len(falling) - 1; i >= 0; i-- {
		path = append(path, falling[i])
	}
	return path
}

// lineDown tells the tip's line from the tip to the final header. A parent has
// a lower number than its children, so that one walk meets it after them.
func (t *Tree) lineDown() []int {
	line := []int{}
	at := t.Tip()
	for i := len(t.kept) - 1; i >= 0; i-- {
		if t.kept[i].ID == at {
			line = append(line, at)
			at = t.kept[i].Parent
		}
	}
	return line
}

// Add accepts a header that is right behind its parent, if it is new and there
// is room (P7). With ErrTwice it tells the number of the header that is there.
func (t *Tree) Add(parent Node, h api.Header, page ledger.Page) (int, api.Errno) {
	twin, isThere := t.twin(parent.ID, h)
	if isThere {
		return twin, api.ErrTwice
	}
	if len(t.kept) >= t.room {
		return 0, api.ErrFull
	}
	t.accepted++
	t.kept = append(t.kept, Node{ID: t.accepted, Parent: parent.ID, Height: parent.Height + 1, Header: h, Page: page})
	t.settle()
	return t.accepted, api.OK
}

// twin tells the number of the header that is the same, if one is kept.
func (t *Tree) twin(parent int, h api.Header) (int, bool) {
	for i := 0; i < len(t.kept); i++ {
		if t.kept[i].Parent == parent && t.kept[i].Header == h {
			return t.kept[i].ID, true
		}
	}
	return 0, false
}

// settle tells anew what is final, and drops what does not have it in its line
// (P9). The final header moves by one step at most: the tip never gets higher
// by more than one.
func (t *Tree) settle() {
	final := t.deepest()
	old := t.Final()
	if final.ID == old {
		return
	}
	t.past = append(t.past, old)
	t.kept = t.keptWith(final)
}

// deepest tells the header in the tip's line that is depth steps away, or the
// first one, which has no parent to be found.
func (t *Tree) deepest() Node {
	at := t.highest()
	for step := 0; step < t.depth; step++ {
		parent, err := t.Find(at.Parent)
		if err != api.OK {
			return at
		}
		at = parent
	}
	return at
}

// highest tells the header with the greatest height, and of several the one
// with the least number, since they are kept by rising numbers (P9).
func (t *Tree) highest() Node {
	best := Node{}
	for i := 0; i < len(t.kept); i++ {
		if i == 0 || t.kept[i].Height > best.Height {
			best = t.kept[i]
		}
	}
	return best
}

// keptWith tells the headers that have the final one in their line. A parent
// has a lower number than its children, so that one walk meets it first.
func (t *Tree) keptWith(final Node) []Node {
	left := []Node{final}
	for i := 0; i < len(t.kept); i++ {
		if isAmong(left, t.kept[i].Parent) {
			left = append(left, t.kept[i])
		}
	}
	return left
}

func isAmong(nodes []Node, id int) bool {
	for i := 0; i < len(nodes); i++ {
		if nodes[i].ID == id {
			return true
		}
	}
	return false
}

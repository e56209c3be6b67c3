package tree

import (
	"testing"

	"beacon/api"
	"beacon/ledger"
)

func begin(t *testing.T, depth int, room int) *Tree {
	t.Helper()
	tree, err := Begin(depth, room, ledger.Page{})
	if err != api.OK {
		t.Fatalf("Begin(%d, %d): %d", depth, room, err)
	}
	return &tree
}

// add lets a header come that differs from all others by its slot.
func add(t *testing.T, tree *Tree, parent int) int {
	t.Helper()
	node, err := tree.Find(parent)
	if err != api.OK {
		t.Fatalf("Find(%d): %d", parent, err)
	}
	id, err := tree.Add(node, api.Header{Slot: tree.accepted}, ledger.Page{})
	if err != api.OK {
		t.Fatalf("Add behind %d: %d", parent, err)
	}
	return id
}

func checkTree(t *testing.T, tree *Tree, tip int, kept []int, past []int) {
	t.Helper()
	if tree.Tip() != tip || tree.Final() != kept[0] {
		t.Errorf("the tip is %d, final is %d, want %d, %d", tree.Tip(), tree.Final(), tip, kept[0])
	}
	if !areEqual(tree.Kept(), kept) || !areEqual(tree.past, past) {
		t.Errorf("kept are %v and %v, want %v and %v", tree.Kept(), tree.past, kept, past)
	}
}

func areEqual(one []int, other []int) bool {
	if len(one) != len(other) {
		return false
	}
	for i := range one {
		if one[i] != other[i] {
			return false
		}
	}
	return true
}

func TestP9TipAndWhatIsKept(t *testing.T) {
	tree := begin(t, 2, 10)
	checkTree(t, tree, 0, []int{0}, nil)
	for _, c := range []struct {
		parent, tip int
		kept, past  []int
	}{
		{0, 1, []int{0, 1}, nil},
		{0, 1, []int{0, 1, 2}, nil},
		{2, 3, []int{0, 1, 2, 3}, nil},
		{1, 3, []int{0, 1, 2, 3, 4}, nil},
		{4, 5, []int{1, 4, 5}, []int{0}},
		{1, 5, []int{1, 4, 5, 6}, []int{0}},
		{6, 5, []int{1, 4, 5, 6, 7}, []int{0}},
		{4, 5, []int{1, 4, 5, 6, 7, 8}, []int{0}},
		{7, 9, []int{6, 7, 9}, []int{0, 1}},
		{9, 10, []int{7, 9, 10}, []int{0, 1, 6}},
	} {
		add(t, tree, c.parent)
		checkTree(t, tree, c.tip, c.kept, c.past)
	}
}

// A tree that Begin did not make answers too.
func TestP1TreeWithoutHeaders(t *testing.T) {
	tree := &Tree{}
	if tree.Tip() != 0 || tree.Final() != 0 || len(tree.Kept()) != 0 || len(tree.Path()) != 0 {
		t.Errorf("it answers %d, %d, %v, %v", tree.Tip(), tree.Final(), tree.Kept(), tree.Path())
	}
	if block, err := tree.Look(0); block != (api.Block{}) || err != api.ErrNone {
		t.Errorf("Look(0) = %+v, %d", block, err)
	}
	if id, err := tree.Add(Node{}, api.Header{}, ledger.Page{}); id != 0 || err != api.ErrFull {
		t.Errorf("Add = %d, %d", id, err)
	}
}

// Inside, the first header's parent is no header's number; callers see a 0.
func TestP8ParentOfTheFirstHeader(t *testing.T) {
	tree := begin(t, 1, 3)
	if block, err := tree.Look(0); block != (api.Block{}) || err != api.OK {
		t.Errorf("Look(0) = %+v, %d", block, err)
	}
	if block, err := tree.Look(noParent); block != (api.Block{}) || err != api.ErrNone {
		t.Errorf("Look(%d) = %+v, %d", noParent, block, err)
	}
}

func TestP8HeadersAreGivenUp(t *testing.T) {
	tree := begin(t, 3, 5)
	at := 0
	for range 500 {
		at = add(t, tree, at)
	}
	if len(tree.kept) != 4 || len(tree.past) != at-3 {
		t.Errorf("%d headers are kept, and %d numbers", len(tree.kept), len(tree.past))
	}
	for _, node := range tree.kept {
		if node.Height != node.ID || node.Parent != node.ID-1 || node.Header.Slot != node.ID-1 {
			t.Errorf("header %d is kept as %+v", node.ID, node)
		}
	}
}

// With ErrTwice comes the number of the header that is there, also in a full
// tree; nothing is added.
func TestP12NumberOfTheHeaderThatIsThere(t *testing.T) {
	tree := begin(t, 3, 4)
	for _, parent := range []int{0, 1, 1} {
		add(t, tree, parent)
	}
	for _, node := range tree.kept[1:] {
		parent, err := tree.Find(node.Parent)
		if err != api.OK {
			t.Fatalf("Find(%d): %d", node.Parent, err)
		}
		id, err := tree.Add(parent, node.Header, ledger.Page{})
		if id != node.ID || err != api.ErrTwice {
			t.Errorf("Add of header %d = %d, %d", node.ID, id, err)
		}
	}
	checkTree(t, tree, 2, []int{0, 1, 2, 3}, nil)
}

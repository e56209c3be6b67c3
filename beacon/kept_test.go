package beacon_test

import (
	"math"
	"math/rand"
	"testing"

	"beacon/api"
)

// wide is a chain on which one pool leads most slots, with room for many lines.
func wide(t *testing.T, depth int) *pair {
	t.Helper()
	return begin(t, api.Params{Depth: depth, Epoch: 5, Room: 40, A: 19, B: 20, Nonce: 3, Stakes: []int{30, 10}})
}

// branch accepts a header behind a parent, of a slot behind all others, so that
// it is never there already.
func (x *pair) branch(parent int) int {
	x.t.Helper()
	slot := 0
	for id := range x.m.headers {
		slot = max(slot, x.slotBehind(id))
	}
	h, found := x.header(parent, slot)
	if !found {
		x.t.Fatalf("of %+v: no header behind %d", x.m.p, parent)
	}
	return x.accept(parent, h)
}

func TestP8Examples(t *testing.T) {
	x := begin(t, exampleParams())
	checkLookIs(t, x.c, 0, api.Block{}, api.OK)
	checkLookIs(t, x.c, 1, api.Block{}, api.ErrNone)
	x.accept(0, firstHeader)
	x.accept(1, secondHeader)
	x.accept(0, thirdHeader)
	checkLookIs(t, x.c, 0, api.Block{}, api.OK)
	checkLookIs(t, x.c, 1, api.Block{Header: firstHeader, Parent: 0, Height: 1}, api.OK)
	checkLookIs(t, x.c, 2, api.Block{Header: secondHeader, Parent: 1, Height: 2}, api.OK)
	checkLookIs(t, x.c, 3, api.Block{Header: thirdHeader, Parent: 0, Height: 1}, api.OK)
	checkLookIs(t, x.c, 4, api.Block{}, api.ErrNone)
	x.accept(2, fourthHeader)
	checkLookIs(t, x.c, 0, api.Block{}, api.ErrOld)
	checkLookIs(t, x.c, 1, api.Block{Header: firstHeader, Parent: 0, Height: 1}, api.OK)
	checkLookIs(t, x.c, 2, api.Block{Header: secondHeader, Parent: 1, Height: 2}, api.OK)
	checkLookIs(t, x.c, 3, api.Block{}, api.ErrNone)
	checkLookIs(t, x.c, 4, api.Block{Header: fourthHeader, Parent: 2, Height: 3}, api.OK)
	checkLookIs(t, x.c, 5, api.Block{}, api.ErrNone)
}

// Look tells every one of a header's numbers.
func TestP8LookTellsTheWholeHeader(t *testing.T) {
	x := begin(t, api.Params{Depth: 3, Epoch: 7, Room: 10, A: 19, B: 20, Nonce: 21, Stakes: []int{0, 30, 5, 5}})
	h, _ := x.header(0, 3)
	h.Count, h.From, h.To, h.Amount = 1, 2, 3, 4
	if h.Slot == 0 || h.Pool == 0 || h.Proof == 0 {
		t.Fatalf("%+v has zeros", h)
	}
	checkLookIs(t, x.c, x.accept(0, h), api.Block{Header: h, Parent: 0, Height: 1}, api.OK)
}

// What is kept before and behind each move of the final header.
func TestP8KeptAsTheFinalHeaderMoves(t *testing.T) {
	x := wide(t, 2)
	checkStandIs(t, x.c, 0, 0, []int{0}, []int{0})
	for _, c := range []struct {
		parent, tip, final int
		kept, path         []int
	}{
		{0, 1, 0, []int{0, 1}, []int{0, 1}},
		{0, 1, 0, []int{0, 1, 2}, []int{0, 1}},
		{2, 3, 0, []int{0, 1, 2, 3}, []int{0, 2, 3}},
		{1, 3, 0, []int{0, 1, 2, 3, 4}, []int{0, 2, 3}},
		{0, 3, 0, []int{0, 1, 2, 3, 4, 5}, []int{0, 2, 3}},
		{4, 6, 1, []int{1, 4, 6}, []int{0, 1, 4, 6}},
		{1, 6, 1, []int{1, 4, 6, 7}, []int{0, 1, 4, 6}},
		{7, 6, 1, []int{1, 4, 6, 7, 8}, []int{0, 1, 4, 6}},
		{7, 6, 1, []int{1, 4, 6, 7, 8, 9}, []int{0, 1, 4, 6}},
		{4, 6, 1, []int{1, 4, 6, 7, 8, 9, 10}, []int{0, 1, 4, 6}},
		{9, 11, 7, []int{7, 8, 9, 11}, []int{0, 1, 7, 9, 11}},
		{8, 11, 7, []int{7, 8, 9, 11, 12}, []int{0, 1, 7, 9, 11}},
		{11, 13, 9, []int{9, 11, 13}, []int{0, 1, 7, 9, 11, 13}},
		{13, 14, 11, []int{11, 13, 14}, []int{0, 1, 7, 9, 11, 13, 14}},
	} {
		id := x.branch(c.parent)
		checkStandIs(t, x.c, c.tip, c.final, c.kept, c.path)
		checkLookIs(t, x.c, id, api.Block{Header: x.m.headers[id], Parent: c.parent, Height: len(x.m.line(c.parent))}, api.OK)
	}
	old := map[int]bool{0: true, 1: true, 7: true, 9: true}
	for id := 0; id < 11; id++ {
		want := api.ErrNone
		if old[id] {
			want = api.ErrOld
		}
		checkLookIs(t, x.c, id, api.Block{}, want)
	}
	checkLookIs(t, x.c, 12, api.Block{}, api.ErrNone)
	checkLookIs(t, x.c, 15, api.Block{}, api.ErrNone)
}

// The parent of the final header is told, though it is kept no more.
func TestP8LookAtTheFinalHeader(t *testing.T) {
	for depth := 1; depth <= 8; depth++ {
		x := wide(t, depth)
		at := 0
		for range 20 {
			x.branch(at)
			at = x.branch(at)
			at = x.grow(at)
			final := x.c.Final()
			want := api.Block{}
			if final > 0 {
				want = api.Block{Header: x.m.headers[final], Parent: x.m.parents[final], Height: x.m.height(final)}
				checkLookIs(t, x.c, want.Parent, api.Block{}, api.ErrOld)
			}
			checkLookIs(t, x.c, final, want, api.OK)
		}
	}
}

// What is kept no more is never kept again, and the reason stays the same.
func TestP8GoneStaysGone(t *testing.T) {
	r := rand.New(rand.NewSource(11))
	old, none := 0, 0
	for range 30 {
		x := drawnPair(t, r)
		var gone []api.Errno
		for range 50 {
			x.offerDrawn(r)
			for id := range x.m.headers {
				_, err := x.c.Look(id)
				if id == len(gone) {
					gone = append(gone, api.OK)
				}
				if gone[id] != api.OK && err != gone[id] {
					t.Fatalf("Look(%d): %d, was %d", id, err, gone[id])
				}
				gone[id] = err
			}
		}
		for _, err := range gone {
			if err == api.ErrOld {
				old++
			}
			if err == api.ErrNone {
				none++
			}
		}
	}
	if old < 50 || none < 50 {
		t.Errorf("%d headers were old, %d let go", old, none)
	}
}

// As many headers are kept as there is room for.
func TestP8KeptOfAFullTree(t *testing.T) {
	x := wide(t, 8)
	want := []int{0}
	for id := 1; id < 40; id++ {
		want = append(want, x.branch(0))
		checkStandIs(t, x.c, 1, 0, want, []int{0, 1})
	}
	h, _ := x.header(1, 5000)
	x.refuse(1, h, api.ErrFull)
	checkStandIs(t, x.c, 1, 0, want, []int{0, 1})
	x.checkAll()
}

func TestP1LookAtWildNumbers(t *testing.T) {
	x := grownExample(t)
	ids := append([]int{math.MinInt, math.MinInt + 1, math.MaxInt - 1, math.MaxInt, 1 << 32, 1<<32 + 1, -1 << 32}, wildNumbers...)
	for _, id := range ids {
		if x.m.whyNot(id) == api.OK {
			continue
		}
		block, err := x.c.Look(id)
		if block != (api.Block{}) || err != api.ErrOld && err != api.ErrNone {
			t.Errorf("Look(%d) = %+v, %d", id, block, err)
		}
		x.checkLook(id)
		x.checkStand()
	}
	for power := range 63 {
		for _, id := range []int{1<<power + 1, 1<<power + 4, -1 << power, 4 - 1<<power} {
			x.checkLook(id)
		}
	}
	x.checkAll()
}

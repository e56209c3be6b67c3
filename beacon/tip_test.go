package beacon_test

import (
	"math/rand"
	"slices"
	"testing"

	"beacon/api"
	"beacon/beacon"
)

func TestP9Examples(t *testing.T) {
	x := begin(t, exampleParams())
	checkStandIs(t, x.c, 0, 0, []int{0}, []int{0})
	x.accept(0, firstHeader)
	checkStandIs(t, x.c, 1, 0, []int{0, 1}, []int{0, 1})
	x.accept(1, secondHeader)
	checkStandIs(t, x.c, 2, 0, []int{0, 1, 2}, []int{0, 1, 2})
	x.refuse(0, firstHeader, api.ErrTwice)
	x.accept(0, thirdHeader)
	checkStandIs(t, x.c, 2, 0, []int{0, 1, 2, 3}, []int{0, 1, 2})
	x.accept(2, fourthHeader)
	checkStandIs(t, x.c, 4, 1, []int{1, 2, 4}, []int{0, 1, 2, 4})
	x.refuse(0, thirdHeader, api.ErrOld)
	x.refuse(3, fourthHeader, api.ErrNone)
	checkStandIs(t, x.c, 4, 1, []int{1, 2, 4}, []int{0, 1, 2, 4})
}

func TestP5FirstHeaderIsTipAndFinal(t *testing.T) {
	for depth := 1; depth <= 8; depth++ {
		checkStandIs(t, wide(t, depth).c, 0, 0, []int{0}, []int{0})
	}
}

// Of several of one height the one that came first stays the tip.
func TestP9TipOfOneHeight(t *testing.T) {
	x := wide(t, 8)
	level := []int{0, 0, 0, 0}
	for range 6 {
		for i := range level {
			level[i] = x.branch(level[i])
			if x.c.Tip() != level[0] {
				t.Fatalf("the tip is %d, want %d", x.c.Tip(), level[0])
			}
		}
	}
	level[2] = x.branch(level[2])
	for _, i := range []int{0, 1, 3} {
		level[i] = x.branch(level[i])
		if x.c.Tip() != level[2] {
			t.Fatalf("the tip is %d, want %d", x.c.Tip(), level[2])
		}
	}
}

// Two lines overtake each other in turn, until what is final lies on one.
func TestP9LinesOvertakeInTurn(t *testing.T) {
	x := wide(t, 3)
	for _, c := range []struct {
		parent, tip, final int
		kept, path         []int
	}{
		{0, 1, 0, []int{0, 1}, []int{0, 1}},
		{0, 1, 0, []int{0, 1, 2}, []int{0, 1}},
		{2, 3, 0, []int{0, 1, 2, 3}, []int{0, 2, 3}},
		{1, 3, 0, []int{0, 1, 2, 3, 4}, []int{0, 2, 3}},
		{4, 5, 0, []int{0, 1, 2, 3, 4, 5}, []int{0, 1, 4, 5}},
		{3, 5, 0, []int{0, 1, 2, 3, 4, 5, 6}, []int{0, 1, 4, 5}},
		{6, 7, 2, []int{2, 3, 6, 7}, []int{0, 2, 3, 6, 7}},
		{2, 7, 2, []int{2, 3, 6, 7, 8}, []int{0, 2, 3, 6, 7}},
		{8, 7, 2, []int{2, 3, 6, 7, 8, 9}, []int{0, 2, 3, 6, 7}},
		{9, 7, 2, []int{2, 3, 6, 7, 8, 9, 10}, []int{0, 2, 3, 6, 7}},
		{10, 11, 8, []int{8, 9, 10, 11}, []int{0, 2, 8, 9, 10, 11}},
	} {
		x.branch(c.parent)
		checkStandIs(t, x.c, c.tip, c.final, c.kept, c.path)
	}
}

// risingTo tells the numbers from one to another.
func risingTo(from int, to int) []int {
	var list []int
	for n := from; n <= to; n++ {
		list = append(list, n)
	}
	return list
}

// On one line the numbers are the heights.
func TestP9OneLineWithEachDepth(t *testing.T) {
	for depth := 1; depth <= 8; depth++ {
		x := wide(t, depth)
		for height := 1; height <= 25; height++ {
			x.grow(height - 1)
			final := max(0, height-depth)
			checkStandIs(t, x.c, height, final, risingTo(final, height), risingTo(0, height))
		}
	}
}

// With the least Depth each header that is higher than all makes its parent
// final, and with it all others go.
func TestP9LeastDepth(t *testing.T) {
	x := wide(t, 1)
	for _, c := range []struct {
		parent, tip, final int
		kept, path         []int
	}{
		{0, 1, 0, []int{0, 1}, []int{0, 1}},
		{0, 1, 0, []int{0, 1, 2}, []int{0, 1}},
		{0, 1, 0, []int{0, 1, 2, 3}, []int{0, 1}},
		{2, 4, 2, []int{2, 4}, []int{0, 2, 4}},
		{2, 4, 2, []int{2, 4, 5}, []int{0, 2, 4}},
		{5, 6, 5, []int{5, 6}, []int{0, 2, 5, 6}},
	} {
		x.branch(c.parent)
		checkStandIs(t, x.c, c.tip, c.final, c.kept, c.path)
	}
}

// With the greatest Depth a line of nine steps alone makes a header final, and
// until then the other line may come first.
func TestP9GreatestDepth(t *testing.T) {
	x := wide(t, 8)
	left, right := 0, 0
	for range 8 {
		left = x.branch(left)
		right = x.branch(right)
	}
	checkStandIs(t, x.c, 15, 0, risingTo(0, 16), []int{0, 1, 3, 5, 7, 9, 11, 13, 15})
	x.branch(right)
	checkStandIs(t, x.c, 17, 2, []int{2, 4, 6, 8, 10, 12, 14, 16, 17}, []int{0, 2, 4, 6, 8, 10, 12, 14, 16, 17})
	x.refuse(left, firstHeader, api.ErrNone)
	side := x.branch(2)
	checkStandIs(t, x.c, 17, 2, []int{2, 4, 6, 8, 10, 12, 14, 16, 17, side}, []int{0, 2, 4, 6, 8, 10, 12, 14, 16, 17})
	x.branch(17)
	checkStandIs(t, x.c, 19, 4, []int{4, 6, 8, 10, 12, 14, 16, 17, 19}, []int{0, 2, 4, 6, 8, 10, 12, 14, 16, 17, 19})
}

// A header for every slot in which the pool leads, up to the last one.
func TestP9LongestLine(t *testing.T) {
	for _, depth := range []int{1, 8} {
		c, err := beacon.New(api.Params{Depth: depth, Epoch: 50, Room: 40, A: 19, B: 20, Stakes: []int{40}})
		if c == nil || err != api.OK {
			t.Fatalf("New: %d", err)
		}
		tip := 0
		for slot := 0; slot <= 10000; slot++ {
			turn, err := c.Turn(tip, slot, 0)
			if err != api.OK {
				t.Fatalf("Turn(%d, %d, 0): %d", tip, slot, err)
			}
			if !turn.Leads {
				continue
			}
			id, err := c.Offer(tip, api.Header{Slot: slot, Proof: turn.Proof})
			if id != tip+1 || err != api.OK {
				t.Fatalf("Offer(%d, ..) = %d, %d", tip, id, err)
			}
			tip = id
		}
		if tip < 9000 {
			t.Errorf("the line has %d headers", tip)
		}
		checkStandIs(t, c, tip, tip-depth, risingTo(tip-depth, tip), risingTo(0, tip))
		for id := -1; id <= tip+1; id++ {
			want := api.OK
			if id < 0 || id > tip {
				want = api.ErrNone
			} else if id < tip-depth {
				want = api.ErrOld
			}
			if _, err := c.Look(id); err != want {
				t.Fatalf("Look(%d): %d, want %d", id, err, want)
			}
		}
	}
}

// nearTheTop draws one of the headers that are kept and lack a step at most to
// the tip's height, so that lines overtake each other often.
func (x *pair) nearTheTop(r *rand.Rand) int {
	var list []int
	for _, id := range x.m.keptList() {
		if x.m.height(id) >= x.m.height(x.m.tip)-1 {
			list = append(list, id)
		}
	}
	return list[r.Intn(len(list))]
}

// What is final never changes its mind: its line grows by one step at most as a
// header is accepted, and the tip goes to that header alone, if it is higher.
func TestP9FinalNeverChangesItsMind(t *testing.T) {
	r := rand.New(rand.NewSource(12))
	moved, switched := 0, 0
	for range 100 {
		x := drawnPair(t, r)
		for range 60 {
			tip, final, path := x.c.Tip(), x.c.Final(), x.c.Path()
			before, _ := x.c.Look(tip)
			parent := x.nearTheTop(r)
			x.offer(parent, x.drawnHeader(r, parent))
			last := len(x.m.headers) - 1
			after, err := x.c.Look(x.c.Tip())
			if err != api.OK || x.c.Tip() != tip && (x.c.Tip() != last || after.Height != before.Height+1) {
				t.Fatalf("the tip went from %d to %d, the last header is %d", tip, x.c.Tip(), last)
			}
			at := slices.Index(path, final)
			now := slices.Index(x.c.Path(), x.c.Final())
			if !slices.Equal(path[:at+1], x.c.Path()[:at+1]) || now < at || now > at+1 {
				t.Fatalf("final was %d of %v, is %d of %v", final, path, x.c.Final(), x.c.Path())
			}
			moved += now - at
			if x.c.Tip() != tip && after.Parent != tip {
				switched++
			}
		}
	}
	if moved < 100 || switched < 100 {
		t.Errorf("what is final moved %d times, another line was chosen %d times", moved, switched)
	}
}

package beacon_test

import (
	"math"
	"testing"

	"beacon/api"
	"beacon/beacon"
)

func TestP7Examples(t *testing.T) {
	x := begin(t, exampleParams())
	for _, c := range []struct {
		parent int
		h      api.Header
		want   int
		err    api.Errno
	}{
		{0, firstHeader, 1, api.OK},
		{0, api.Header{Pool: 1, Proof: 778}, 0, api.ErrLeader},
		{0, api.Header{Pool: 1, Proof: 777}, 0, api.ErrProof},
		{0, api.Header{Pool: 1, Proof: 777, Count: 2}, 0, api.ErrCount},
		{1, secondHeader, 2, api.OK},
		{0, firstHeader, 0, api.ErrTwice},
		{0, thirdHeader, 3, api.OK},
		{2, fourthHeader, 4, api.OK},
		{0, firstHeader, 0, api.ErrOld},
		{0, thirdHeader, 0, api.ErrOld},
		{3, fourthHeader, 0, api.ErrNone},
		{5, fourthHeader, 0, api.ErrNone},
	} {
		id, err := x.c.Offer(c.parent, c.h)
		if id != c.want || err != c.err {
			t.Fatalf("Offer(%d, %+v) = %d, %d, want %d, %d", c.parent, c.h, id, err, c.want, c.err)
		}
	}
}

// Each error at its edges, with all that is named behind it wrong too.
func TestP7OrderOfErrors(t *testing.T) {
	x := begin(t, exampleParams())
	x.accept(0, firstHeader)
	for _, c := range []struct {
		parent int
		h      api.Header
		want   api.Errno
	}{
		{2, api.Header{Slot: -1, Pool: -1, Count: -1, From: -1}, api.ErrNone},
		{-1, api.Header{Slot: 2, Proof: 492}, api.ErrNone},
		{1, api.Header{Slot: 0, Pool: 2, Count: 2, From: 2}, api.ErrSlot},
		{1, api.Header{Slot: -1, Pool: 2, Count: 2, From: 2}, api.ErrSlot},
		{1, api.Header{Slot: 10001, Pool: 2, Count: 2, From: 2}, api.ErrSlot},
		{0, api.Header{Slot: -1, Pool: 2, Count: 2, From: 2}, api.ErrSlot},
		{1, api.Header{Slot: 1, Pool: 2, Count: 2, From: 2}, api.ErrPool},
		{1, api.Header{Slot: 10000, Pool: -1, Count: 2, From: 2}, api.ErrPool},
		{1, api.Header{Slot: 2, Pool: 5, Count: 2, From: 2}, api.ErrPool},
		{1, api.Header{Slot: 2, Count: 2, From: 2}, api.ErrCount},
		{1, api.Header{Slot: 2, Count: -1, To: 2}, api.ErrCount},
		{1, api.Header{Slot: 2, From: 2, Proof: 491}, api.ErrMove},
		{1, api.Header{Slot: 2, From: -1, Proof: 491}, api.ErrMove},
		{1, api.Header{Slot: 2, To: 2, Proof: 491}, api.ErrMove},
		{1, api.Header{Slot: 2, To: -1, Proof: 491}, api.ErrMove},
		{1, api.Header{Slot: 2, Amount: 2, Proof: 491}, api.ErrMove},
		{1, api.Header{Slot: 2, Amount: -1, Proof: 491}, api.ErrMove},
		{1, api.Header{Slot: 2, From: 1, Amount: 4, Proof: 491}, api.ErrMove},
		{1, api.Header{Slot: 2, Amount: 1, Proof: 491}, api.ErrProof},
		{1, api.Header{Slot: 2, From: 1, Amount: 3, Count: 1, Proof: 493}, api.ErrProof},
		{1, api.Header{Slot: 2, Proof: 492 + 1024}, api.ErrProof},
		{1, api.Header{Slot: 2, Proof: 492 - 1024}, api.ErrProof},
		{1, api.Header{Slot: 2, Proof: 492 + 1<<32}, api.ErrProof},
		{0, api.Header{Slot: 0, Pool: 1, Proof: 777}, api.ErrProof},
		{0, api.Header{Slot: 0, Pool: 1, Proof: 778}, api.ErrLeader},
		{0, firstHeader, api.ErrTwice},
	} {
		x.refuse(c.parent, c.h, c.want)
	}
	x.checkAll()
}

// The slot, the pool, the count and the move that are just right.
func TestP7EdgesThatMayBe(t *testing.T) {
	p := exampleParams()
	p.Room = 40
	x := begin(t, p)
	first := x.accept(0, firstHeader)
	for _, h := range []api.Header{
		{Slot: 2, Proof: 492, Amount: 1},
		{Slot: 2, Proof: 492, Count: 1, Amount: 1, To: 1},
		{Slot: 2, Proof: 492, From: 1, Amount: 3},
		{Slot: 2, Proof: 492, From: 1, To: 1, Amount: 3},
		{Slot: 2, Pool: 1, Proof: 458, Count: 1, From: 1, Amount: 0},
	} {
		x.accept(first, h)
	}
	x.checkAll()
}

// lineTo grows one line from the first header on, of this many headers.
func lineTo(x *pair, number int) int {
	x.t.Helper()
	at := 0
	for range number {
		at = x.grow(at)
	}
	return at
}

// A count may stay or rise by one, from header to header.
func TestP7Counts(t *testing.T) {
	x := begin(t, api.Params{Depth: 8, Epoch: 5, Room: 40, A: 19, B: 20, Stakes: []int{3}})
	at := 0
	count := 0
	for step := range 8 {
		h, _ := x.header(at, x.slotBehind(at))
		for _, wrong := range []int{count - 1, count + 2, -1, count + 3, math.MinInt, math.MaxInt} {
			h.Count = wrong
			if wrong != count && wrong != count+1 {
				x.refuse(at, h, api.ErrCount)
			}
		}
		h.Count = count
		same := x.accept(at, h)
		h.Count = count + 1
		more := x.accept(at, h)
		at = same
		if step%3 > 0 {
			at = more
			count++
		}
	}
}

// The counts of the pools do not touch each other.
func TestP7CountsOfSeveralPools(t *testing.T) {
	x := begin(t, exampleParams())
	first := x.accept(0, api.Header{Slot: 0, Proof: 236, Count: 1})
	x.refuse(first, api.Header{Slot: 2, Pool: 1, Proof: 458, Count: 2}, api.ErrCount)
	x.refuse(first, api.Header{Slot: 2, Pool: 0, Proof: 492, Count: 0}, api.ErrCount)
	x.accept(first, api.Header{Slot: 2, Pool: 1, Proof: 458, Count: 1})
	x.accept(first, api.Header{Slot: 2, Pool: 1, Proof: 458, Count: 0})
	x.accept(first, api.Header{Slot: 2, Pool: 0, Proof: 492, Count: 2})
}

// The same header behind another parent is another one, and so is one that
// differs in a single number.
func TestP7Twice(t *testing.T) {
	p := exampleParams()
	p.Room = 40
	x := begin(t, p)
	first := x.accept(0, firstHeader)
	list := []api.Header{
		{Slot: 2, Pool: 1, Proof: 458},
		{Slot: 2, Pool: 1, Proof: 458, Count: 1},
		{Slot: 2, Pool: 1, Proof: 458, From: 1},
		{Slot: 2, Pool: 1, Proof: 458, To: 1},
		{Slot: 2, Pool: 1, Proof: 458, Amount: 1},
		{Slot: 2, Pool: 0, Proof: 492},
		{Slot: 3, Pool: 0, Proof: 516},
	}
	for _, h := range list {
		x.accept(0, h)
		x.accept(first, h)
	}
	for _, h := range list {
		x.refuse(0, h, api.ErrTwice)
		x.refuse(first, h, api.ErrTwice)
	}
	x.refuse(0, firstHeader, api.ErrTwice)
}

// A header of zeros alone, in slot 0, is another one than the first header.
func TestP7ZerosAreNotTheFirstHeader(t *testing.T) {
	for nonce := 0; nonce < api.Mod; nonce++ {
		proof, _ := beacon.Draw(nonce, 0, 0)
		if proof != 0 {
			continue
		}
		p := exampleParams()
		p.Nonce = nonce
		x := begin(t, p)
		if id := x.accept(0, api.Header{}); id != 1 {
			t.Errorf("the number is %d", id)
		}
		x.refuse(0, api.Header{}, api.ErrTwice)
		x.checkAll()
		return
	}
	t.Error("no nonce draws 0")
}

// A tree is full even if the header that comes would make others go.
func TestP7Full(t *testing.T) {
	for _, c := range []struct{ depth, room, fit int }{
		{1, 2, 1}, {2, 2, 1}, {2, 3, 2}, {8, 2, 1}, {8, 9, 8}, {7, 8, 7},
	} {
		x := begin(t, api.Params{Depth: c.depth, Epoch: 5, Room: c.room, A: 19, B: 20, Stakes: []int{3, 1}})
		at := lineTo(x, c.fit)
		h, _ := x.header(at, x.slotBehind(at))
		x.refuse(at, h, api.ErrFull)
		x.refuse(x.m.parents[at], x.m.headers[at], api.ErrTwice)
		fork, _ := x.header(0, 30)
		x.refuse(0, fork, api.ErrFull)
		x.checkAll()
	}
}

// With room for one more than a line to the final header there is always a
// place, as long as there are no other lines.
func TestP7NeverFullOnOneLine(t *testing.T) {
	for depth := 1; depth <= 8; depth++ {
		x := begin(t, api.Params{Depth: depth, Epoch: 5, Room: depth + 2, A: 19, B: 20, Stakes: []int{3, 1}})
		at := lineTo(x, 30)
		if x.m.final != at-depth {
			t.Fatalf("final is %d", x.m.final)
		}
		x.checkAll()
		h, _ := x.header(at-depth, x.slotBehind(at))
		x.accept(at-depth, h)
		h, _ = x.header(at, x.slotBehind(at))
		x.refuse(at, h, api.ErrFull)
	}
}

// The room is the same for all lines together, and a place that was given up
// is there again.
func TestP7RoomComesBack(t *testing.T) {
	x := begin(t, api.Params{Depth: 1, Epoch: 5, Room: 5, A: 19, B: 20, Stakes: []int{3, 1}})
	for _, slot := range []int{2, 4, 6} {
		h, _ := x.header(0, slot)
		x.accept(0, h)
	}
	h, _ := x.header(3, 30)
	x.accept(3, h)
	for _, id := range []int{0, 1, 2, 3, 4} {
		_, err := x.c.Stake(id, 0)
		want := []api.Errno{api.ErrOld, api.ErrNone, api.ErrNone, api.OK, api.OK}[id]
		if err != want {
			t.Errorf("Stake(%d, 0): %d, want %d", id, err, want)
		}
	}
	for _, slot := range []int{40, 50, 60} {
		h, _ = x.header(3, slot)
		x.accept(3, h)
	}
	h, _ = x.header(3, 70)
	x.refuse(3, h, api.ErrFull)
	x.checkAll()
}

// Which headers are still parents, as the final one moves on.
func TestP7Parents(t *testing.T) {
	for depth := 1; depth <= 8; depth++ {
		x := begin(t, api.Params{Depth: depth, Epoch: 6, Room: 40, A: 19, B: 20, Stakes: []int{5, 5}})
		at := 0
		var side []int
		for height := 1; height <= 20; height++ {
			next := x.grow(at)
			h, _ := x.header(at, x.slotBehind(next))
			side = append(side, x.accept(at, h))
			at = next
			x.checkAll()
			for _, id := range x.m.line(at) {
				want := api.ErrSlot
				if x.m.height(id) < height-depth {
					want = api.ErrOld
				}
				x.refuse(id, api.Header{Slot: -1}, want)
			}
			for _, id := range side {
				want := api.ErrSlot
				if x.m.height(id) <= height-depth {
					want = api.ErrNone
				}
				x.refuse(id, api.Header{Slot: -1}, want)
			}
		}
	}
}

// The line that was behind overtakes the one that was chosen: what is final
// lies on the longer one.
func TestP7OtherLineOvertakes(t *testing.T) {
	for depth := 1; depth <= 8; depth++ {
		x := begin(t, api.Params{Depth: depth, Epoch: 4, Room: 40, A: 19, B: 20, Stakes: []int{7, 3}})
		left := lineTo(x, depth)
		h, _ := x.header(0, x.slotBehind(left))
		right := x.accept(0, h)
		firstRight := right
		for x.m.height(right) < depth {
			right = x.grow(right)
		}
		x.checkAll()
		if x.m.final != 0 {
			t.Fatalf("depth %d: final is %d", depth, x.m.final)
		}
		right = x.grow(right)
		x.checkAll()
		if x.m.final != firstRight {
			t.Fatalf("depth %d: final is %d, want %d", depth, x.m.final, firstRight)
		}
		x.refuse(0, h, api.ErrOld)
		x.refuse(left, h, api.ErrNone)
		x.refuse(1, h, api.ErrNone)
		x.grow(right)
		x.refuse(firstRight, h, api.ErrOld)
		x.checkAll()
	}
}

// A long line, up to the last slot: nothing comes behind that.
func TestP7LastSlot(t *testing.T) {
	x := begin(t, exampleParams())
	at := 0
	for slot := 9500; slot < 10000; slot++ {
		h, found := x.header(at, slot)
		if !found {
			break
		}
		slot = h.Slot
		at = x.accept(at, h)
	}
	for pool := range 2 {
		x.checkTurn(at, 10000, pool)
		x.checkTurn(at, 10001, pool)
	}
	for nonce := 0; ; nonce++ {
		p := exampleParams()
		p.Epoch, p.Nonce = 50, nonce
		x = begin(t, p)
		turn, _ := x.c.Turn(0, 10000, 0)
		if turn.Leads {
			last := x.accept(0, api.Header{Slot: 10000, Proof: turn.Proof})
			for _, slot := range []int{0, 9999, 10000, 10001, math.MaxInt} {
				x.refuse(last, api.Header{Slot: slot}, api.ErrSlot)
				x.checkTurn(last, slot, 0)
			}
			return
		}
	}
}

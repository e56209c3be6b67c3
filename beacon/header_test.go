package beacon_test

import (
	"testing"

	"beacon/api"
)

// The headers 1 to 4 of DOC.md's examples.
var (
	firstHeader  = api.Header{Slot: 0, Pool: 0, Proof: 236, Count: 0, From: 0, To: 1, Amount: 2}
	secondHeader = api.Header{Slot: 2, Pool: 0, Proof: 492, Count: 1}
	thirdHeader  = api.Header{Slot: 2, Pool: 1, Proof: 458, Count: 0}
	fourthHeader = api.Header{Slot: 3, Pool: 0, Proof: 516, Count: 1}
)

func checkGoes(t *testing.T, x *pair, id int, stakes []int, counts []int) {
	t.Helper()
	for pool := range stakes {
		stake, err := x.c.Stake(id, pool)
		count, countErr := x.c.Count(id, pool)
		if stake != stakes[pool] || err != api.OK || count != counts[pool] || countErr != api.OK {
			t.Errorf("header %d, pool %d: %d, %d, %d, %d, want %d, %d", id, pool, stake, err, count, countErr, stakes[pool], counts[pool])
		}
	}
}

func checkTurnIs(t *testing.T, x *pair, id int, slot int, pool int, want api.Turn) {
	t.Helper()
	turn, err := x.c.Turn(id, slot, pool)
	if turn != want || err != api.OK {
		t.Errorf("Turn(%d, %d, %d) = %+v, %d, want %+v", id, slot, pool, turn, err, want)
	}
}

func checkNonceAndStake(t *testing.T, x *pair, id int, slot int, pool int, nonce int, stake int) {
	t.Helper()
	turn, err := x.c.Turn(id, slot, pool)
	if turn.Nonce != nonce || turn.Stake != stake || err != api.OK {
		t.Errorf("Turn(%d, %d, %d) = %+v, %d, want nonce %d, stake %d", id, slot, pool, turn, err, nonce, stake)
	}
}

func TestP6Examples(t *testing.T) {
	x := begin(t, exampleParams())
	checkTurnIs(t, x, 0, 0, 0, api.Turn{Nonce: 0, Proof: 236, Stake: 3, Leads: true})
	checkTurnIs(t, x, 0, 0, 1, api.Turn{Nonce: 0, Proof: 778, Stake: 1, Leads: false})
	x.accept(0, firstHeader)
	checkGoes(t, x, 0, []int{3, 1}, []int{0, 0})
	checkGoes(t, x, 1, []int{1, 3}, []int{0, 0})
	checkNonceAndStake(t, x, 1, 5, 0, 237, 3)
	x.accept(1, secondHeader)
	checkGoes(t, x, 2, []int{1, 3}, []int{1, 0})
	x.accept(0, thirdHeader)
	checkGoes(t, x, 3, []int{3, 1}, []int{0, 0})
	checkNonceAndStake(t, x, 2, 5, 0, 61402, 3)
	checkNonceAndStake(t, x, 2, 10, 0, 61402, 1)
	x.accept(2, fourthHeader)
	x.checkAll()
}

// headerInSlot begins a chain whose first pool leads a slot, and lets its
// header come.
func headerInSlot(t *testing.T, epoch int, slot int) (*pair, api.Header) {
	t.Helper()
	for nonce := 1; ; nonce++ {
		x := begin(t, api.Params{Depth: 1, Epoch: epoch, Room: 2, A: 19, B: 20, Nonce: nonce, Stakes: []int{1}})
		turn, _ := x.m.turn(0, slot, 0)
		if turn.Leads {
			h := api.Header{Slot: slot, Proof: turn.Proof}
			x.accept(0, h)
			return x, h
		}
	}
}

// Only a header in an early slot stirs the running nonce.
func TestP6EarlySlots(t *testing.T) {
	for _, c := range []struct{ epoch, early int }{{1, 1}, {2, 2}, {3, 2}, {4, 3}, {5, 4}, {6, 4}, {49, 33}, {50, 34}} {
		for place := range c.epoch {
			x, h := headerInSlot(t, c.epoch, 3*c.epoch+place)
			want := x.m.p.Nonce
			if place < c.early {
				want = (want*257 + h.Proof + 1) % 65521
			}
			checkNonceAndStake(t, x, 1, 4*c.epoch, 0, want, 1)
		}
	}
}

func TestP6EveryPlaceInEveryEpoch(t *testing.T) {
	for epoch := 1; epoch <= 50; epoch++ {
		for place := range epoch {
			x, _ := headerInSlot(t, epoch, place)
			x.checkHeader(1)
		}
	}
}

func TestP6MoveToTheSamePool(t *testing.T) {
	x := begin(t, exampleParams())
	for _, h := range []api.Header{
		{Slot: 0, Proof: 236, From: 0, To: 0, Amount: 3},
		{Slot: 0, Proof: 236, From: 1, To: 1, Amount: 1},
		{Slot: 0, Proof: 236, From: 1, To: 0, Amount: 0},
	} {
		checkGoes(t, x, x.accept(0, h), []int{3, 1}, []int{0, 0})
	}
	checkGoes(t, x, x.accept(0, api.Header{Slot: 0, Proof: 236, From: 0, To: 1, Amount: 3}), []int{0, 4}, []int{0, 0})
	checkGoes(t, x, x.accept(0, api.Header{Slot: 0, Proof: 236, From: 1, To: 0, Amount: 1}), []int{4, 0}, []int{0, 0})
}

// A pool may come to hold more than MaxStake, which binds New alone.
func TestP6StakesAboveMaxStake(t *testing.T) {
	x := begin(t, api.Params{Depth: 8, Epoch: 1, Room: 40, A: 19, B: 20, Stakes: []int{40, 40, 40, 40, 40, 40}})
	at := 0
	for from := 1; from < 6; from++ {
		h, _ := x.header(at, x.slotBehind(at))
		h.From, h.To, h.Amount = from, 0, 40
		at = x.accept(at, h)
		x.checkHeader(at)
	}
	stake, err := x.c.Stake(at, 0)
	if stake != 240 || err != api.OK {
		t.Errorf("Stake(%d, 0) = %d, %d", at, stake, err)
	}
	turn, err := x.c.Turn(at, 10000, 0)
	if turn.Stake != 240 || err != api.OK {
		t.Errorf("Turn(%d, 10000, 0) = %+v, %d", at, turn, err)
	}
	turn, err = x.c.Turn(at, 10000, 5)
	if turn.Stake != 0 || turn.Leads || err != api.OK {
		t.Errorf("Turn(%d, 10000, 5) = %+v, %d", at, turn, err)
	}
}

// One header in each epoch, then one that leaps over epochs: a slot's stakes
// lie two epochs back, its nonce one.
func TestP6AcrossEpochs(t *testing.T) {
	for _, leap := range []int{0, 1, 2, 3, 7} {
		x := begin(t, api.Params{Depth: 8, Epoch: 4, Room: 40, A: 19, B: 20, Nonce: 5, Stakes: []int{20, 10, 5}})
		at := 0
		for step := range 7 {
			slot := x.slotBehind(at)
			if step == 3 {
				slot += 4 * leap
			}
			h, _ := x.header(at, slot)
			h.From, h.To, h.Amount = step%3, (step+1)%3, 1+step%2
			h.Count += step % 2
			at = x.accept(at, h)
			x.checkAll()
		}
	}
}

// Two lines part behind header 1: what goes with one does not go with the
// other.
func TestP6SeveralLines(t *testing.T) {
	x := begin(t, api.Params{Depth: 8, Epoch: 3, Room: 40, A: 19, B: 20, Nonce: 9, Stakes: []int{10, 10}})
	root := x.grow(0)
	left, right := root, root
	for step := range 6 {
		slot := x.slotBehind(max(left, right))
		h, _ := x.header(left, slot)
		h.From, h.To, h.Amount = 0, 1, 1
		h.Count++
		left = x.accept(left, h)
		h, _ = x.header(right, slot+step%2)
		h.From, h.To, h.Amount = 1, 0, 1
		right = x.accept(right, h)
		x.checkAll()
	}
	checkGoes(t, x, left, []int{4, 16}, []int{x.m.count(left, 0), x.m.count(left, 1)})
	checkGoes(t, x, right, []int{16, 4}, []int{0, 0})
	if x.m.count(left, 0)+x.m.count(left, 1) != 6 {
		t.Errorf("the counts are %d and %d", x.m.count(left, 0), x.m.count(left, 1))
	}
}

// The numbers of headers that are kept no more still count.
func TestP6BehindTheFinalHeader(t *testing.T) {
	for _, epoch := range []int{1, 2, 5, 9, 50} {
		x := begin(t, api.Params{Depth: 1, Epoch: epoch, Room: 3, A: 19, B: 20, Nonce: 11, Stakes: []int{9, 9, 9}})
		at := 0
		for step := range 40 {
			h, _ := x.header(at, x.slotBehind(at))
			h.From, h.To, h.Amount = step%3, (step+step/3)%3, step%2
			h.Count++
			at = x.accept(at, h)
			x.checkHeader(at - 1)
			x.checkHeader(at)
		}
		x.checkAll()
	}
}

func TestP6Errors(t *testing.T) {
	x := begin(t, exampleParams())
	x.accept(0, firstHeader)
	x.accept(1, secondHeader)
	x.accept(0, thirdHeader)
	x.accept(2, fourthHeader)
	for _, c := range []struct {
		id, slot, pool int
		turn, stake    api.Errno
	}{
		{0, 9, 0, api.ErrOld, api.ErrOld},
		{0, -1, -1, api.ErrOld, api.ErrOld},
		{3, 9, 0, api.ErrNone, api.ErrNone},
		{3, -1, 2, api.ErrNone, api.ErrNone},
		{5, 10001, 2, api.ErrNone, api.ErrNone},
		{-1, 9, 0, api.ErrNone, api.ErrNone},
		{4, 3, 0, api.ErrSlot, api.OK},
		{4, 2, 2, api.ErrSlot, api.ErrPool},
		{4, -1, -1, api.ErrSlot, api.ErrPool},
		{4, 10001, 6, api.ErrSlot, api.ErrPool},
		{4, 4, 2, api.ErrPool, api.ErrPool},
		{4, 10000, -1, api.ErrPool, api.ErrPool},
		{4, 4, 1, api.OK, api.OK},
		{4, 10000, 0, api.OK, api.OK},
		{1, 0, 0, api.ErrSlot, api.OK},
		{1, 1, 0, api.OK, api.OK},
	} {
		turn, err := x.c.Turn(c.id, c.slot, c.pool)
		if err != c.turn || err != api.OK && turn != (api.Turn{}) {
			t.Errorf("Turn(%d, %d, %d) = %+v, %d, want %d", c.id, c.slot, c.pool, turn, err, c.turn)
		}
		stake, err := x.c.Stake(c.id, c.pool)
		if err != c.stake || err != api.OK && stake != 0 {
			t.Errorf("Stake(%d, %d) = %d, %d, want %d", c.id, c.pool, stake, err, c.stake)
		}
		count, err := x.c.Count(c.id, c.pool)
		if err != c.stake || err != api.OK && count != 0 {
			t.Errorf("Count(%d, %d) = %d, %d, want %d", c.id, c.pool, count, err, c.stake)
		}
	}
}

package beacon_test

import (
	"math/rand"
	"testing"

	"beacon/api"
	"beacon/beacon"
)

// drawnParams draws what a chain may begin with; often near the edges.
func drawnParams(r *rand.Rand) api.Params {
	p := api.Params{Depth: 1 + r.Intn(8), Epoch: 1 + r.Intn(12), Room: 2 + r.Intn(39), Nonce: r.Intn(65521)}
	if r.Intn(4) == 0 {
		p.Epoch = 1 + r.Intn(50)
	}
	if r.Intn(2) == 0 {
		p.Depth = 1 + r.Intn(3)
	}
	p.B = 2 + r.Intn(19)
	p.A = 1 + r.Intn(p.B-1)
	if r.Intn(2) == 0 {
		p.A = p.B - 1
	}
	for range 1 + r.Intn(6) {
		p.Stakes = append(p.Stakes, r.Intn(41)*r.Intn(2))
	}
	p.Stakes[r.Intn(len(p.Stakes))] = 1 + r.Intn(40)
	return p
}

// drawnParent draws one of the newest headers mostly, which are kept; now and
// then any number.
func (x *pair) drawnParent(r *rand.Rand) int {
	number := len(x.m.headers)
	switch r.Intn(12) {
	case 0:
		return r.Intn(number+3) - 1
	case 1:
		return wildNumbers[r.Intn(len(wildNumbers))]
	case 2, 3, 4:
		return max(0, number-1-r.Intn(6))
	case 5:
		return x.m.final
	}
	return x.m.tip
}

// drawnHeader makes a header that may come behind a parent, if that is kept.
func (x *pair) drawnHeader(r *rand.Rand, parent int) api.Header {
	if x.m.whyNot(parent) != api.OK {
		return firstHeader
	}
	slot := x.slotBehind(parent) + r.Intn(2)*r.Intn(3)
	if r.Intn(6) == 0 {
		slot += r.Intn(4 * x.m.p.Epoch)
	}
	h, _ := x.header(parent, slot)
	h.Count += r.Intn(2)
	h.From, h.To = r.Intn(len(x.m.p.Stakes)), r.Intn(len(x.m.p.Stakes))
	h.Amount = r.Intn(x.m.stake(parent, h.From) + 1)
	return h
}

// spoil changes one of a header's numbers, a little or wildly.
func spoil(r *rand.Rand, h api.Header) api.Header {
	number := []*int{&h.Slot, &h.Pool, &h.Proof, &h.Count, &h.From, &h.To, &h.Amount}[r.Intn(7)]
	switch r.Intn(4) {
	case 0:
		*number = wildNumbers[r.Intn(len(wildNumbers))]
	case 1:
		*number--
	default:
		*number++
	}
	return h
}

// ofAnyPool gives a header to a pool that may or may not lead its slot.
func (x *pair) ofAnyPool(r *rand.Rand, parent int, h api.Header) api.Header {
	h.Pool = r.Intn(len(x.m.p.Stakes))
	turn, err := x.m.turn(parent, h.Slot, h.Pool)
	if err == api.OK {
		h.Proof = turn.Proof
		h.Count = x.m.count(parent, h.Pool)
	}
	return h
}

// offerDrawn offers a header that may come, the one that came last once more,
// one of a pool that may not lead, or one with up to two numbers spoilt.
func (x *pair) offerDrawn(r *rand.Rand) api.Errno {
	x.t.Helper()
	parent := x.drawnParent(r)
	h := x.drawnHeader(r, parent)
	last := len(x.m.headers) - 1
	switch r.Intn(8) {
	case 0:
		h = spoil(r, spoil(r, h))
	case 1, 2:
		h = spoil(r, h)
	case 3:
		if last > 0 {
			parent, h = x.m.parents[last], x.m.headers[last]
		}
	case 4:
		h = x.ofAnyPool(r, parent, h)
	}
	_, err := x.offer(parent, h)
	return err
}

func drawnPair(t *testing.T, r *rand.Rand) *pair {
	t.Helper()
	x := begin(t, drawnParams(r))
	x.checkAll()
	return x
}

// Drawn chains, with headers that are refused among those that are accepted: a
// refusal must leave everything as it was, else the model would part from the
// chain.
func TestP7DrawnChains(t *testing.T) {
	r := rand.New(rand.NewSource(5))
	seen := map[api.Errno]int{}
	moved := 0
	for range 150 {
		x := drawnPair(t, r)
		for step := range 60 {
			final := x.m.final
			seen[x.offerDrawn(r)]++
			if x.m.final != final {
				moved++
			}
			if step%12 == 11 {
				x.checkAll()
			}
			x.checkHeader(len(x.m.headers) - 1)
			x.checkHeader(x.m.final)
		}
		x.checkAll()
	}
	for err := api.OK; err <= api.ErrFull; err++ {
		if err != api.ErrArg && seen[err] < 10 {
			t.Errorf("the error %d was seen %d times", err, seen[err])
		}
	}
	if moved < 100 {
		t.Errorf("what is final moved %d times", moved)
	}
}

// Several chains grow side by side, two of them with the same numbers at first:
// none touches another.
func TestP2ChainsDoNotTouch(t *testing.T) {
	r := rand.New(rand.NewSource(6))
	stakes := []int{9, 4, 2}
	shared := api.Params{Depth: 2, Epoch: 4, Room: 12, A: 19, B: 20, Nonce: 77, Stakes: stakes}
	list := []*pair{begin(t, shared), begin(t, shared), drawnPair(t, r), drawnPair(t, r)}
	for range 300 {
		x := list[r.Intn(len(list))]
		x.offerDrawn(r)
		for _, other := range list {
			other.checkHeader(other.m.tip)
			other.checkHeader(other.m.final)
		}
	}
	for _, x := range list {
		x.checkAll()
	}
	if stakes[0] != 9 || stakes[1] != 4 || stakes[2] != 2 {
		t.Errorf("the stakes are %v", stakes)
	}
}

// What goes with a header hangs on its line alone: a chain that was given the
// line and nothing else, in one go, answers the same.
func TestP6LineAlone(t *testing.T) {
	r := rand.New(rand.NewSource(7))
	for range 40 {
		p := drawnParams(r)
		p.Room = 40
		x := begin(t, p)
		for range 40 {
			x.offerDrawn(r)
		}
		alone := begin(t, p)
		at := 0
		for _, id := range x.m.line(x.m.tip)[1:] {
			at = alone.accept(at, x.m.headers[id])
		}
		for pool := range p.Stakes {
			for slot := x.slotBehind(x.m.tip); slot <= 10000; slot += 1 + r.Intn(2*p.Epoch) {
				turn, err := x.c.Turn(x.m.tip, slot, pool)
				other, otherErr := alone.c.Turn(at, slot, pool)
				if turn != other || err != otherErr {
					t.Fatalf("slot %d, pool %d: %+v, %d and %+v, %d", slot, pool, turn, err, other, otherErr)
				}
				if slot > 200 {
					slot += 400
				}
			}
		}
	}
}

func TestP6StakesAreTheTotal(t *testing.T) {
	r := rand.New(rand.NewSource(8))
	for range 40 {
		x := drawnPair(t, r)
		for range 40 {
			x.offerDrawn(r)
			sum := 0
			for pool := range x.m.p.Stakes {
				stake, err := x.c.Stake(x.m.tip, pool)
				if stake < 0 || err != api.OK {
					t.Fatalf("Stake(%d, %d) = %d, %d", x.m.tip, pool, stake, err)
				}
				sum += stake
			}
			if sum != x.m.total() {
				t.Fatalf("the stakes of header %d are %d, want %d", x.m.tip, sum, x.m.total())
			}
		}
	}
}

// grownExample is the chain of DOC.md's examples, with its four headers.
func grownExample(t *testing.T) *pair {
	t.Helper()
	x := begin(t, exampleParams())
	x.accept(0, firstHeader)
	x.accept(1, secondHeader)
	x.accept(0, thirdHeader)
	x.accept(2, fourthHeader)
	return x
}

func TestP1QuestionsAtWildNumbers(t *testing.T) {
	x := grownExample(t)
	for _, id := range append([]int{4}, wildNumbers...) {
		for _, pool := range wildNumbers {
			x.checkPool(id, pool)
			for _, slot := range wildNumbers {
				x.checkTurn(id, slot, pool)
			}
		}
	}
	x.checkAll()
}

// Every two numbers of a header at once, behind every kind of parent.
func TestP1OfferAtWildNumbers(t *testing.T) {
	x := grownExample(t)
	good, _ := x.header(4, 4)
	for _, parent := range []int{4, 1, 0, 3, 5, -1} {
		for i := range 7 {
			for j := range 7 {
				for _, m := range wildNumbers {
					for _, n := range wildNumbers {
						h := good
						numbers := []*int{&h.Slot, &h.Pool, &h.Proof, &h.Count, &h.From, &h.To, &h.Amount}
						*numbers[i], *numbers[j] = m, n
						if x.m.refusal(parent, h) != api.OK {
							x.offer(parent, h)
						}
					}
				}
			}
		}
	}
	for _, parent := range wildNumbers {
		if x.m.whyNot(parent) != api.OK {
			x.offer(parent, good)
		}
	}
	x.checkAll()
	if id := x.accept(4, good); id != 5 {
		t.Errorf("the number behind so many refusals is %d", id)
	}
}

func TestP1NewAtWildNumbers(t *testing.T) {
	for _, one := range numberFields {
		for _, other := range numberFields {
			for _, m := range wildNumbers {
				for _, n := range wildNumbers {
					p := exampleParams()
					one.set(&p, m)
					other.set(&p, n)
					c, err := beacon.New(p)
					if (c == nil) != (err != api.OK) || err != api.OK && err != api.ErrArg {
						t.Fatalf("New(%+v) = %v, %d", p, c, err)
					}
				}
			}
		}
	}
}

// Questions change nothing: the same ones are asked again in between.
func TestP2QuestionsChangeNothing(t *testing.T) {
	x := grownExample(t)
	for range 3 {
		x.checkAll()
	}
	if id := x.grow(4); id != 5 {
		t.Errorf("the number is %d", id)
	}
	x.checkAll()
}

package beacon_test

import (
	"math"
	"math/rand"
	"slices"
	"testing"

	"beacon/api"
	"beacon/beacon"
)

func checkNext(t *testing.T, c *beacon.Chain, peer int, text string, want int, wantErr api.Errno) {
	t.Helper()
	id, err := c.Next(peer, text)
	if id != want || err != wantErr {
		t.Fatalf("Next(%d, %.99q) = %d, %d, want %d, %d", peer, text, id, err, want, wantErr)
	}
}

func checkBack(t *testing.T, c *beacon.Chain, peer int, id int, want api.Errno) {
	t.Helper()
	if err := c.Back(peer, id); err != want {
		t.Fatalf("Back(%d, %d): %d, want %d", peer, id, err, want)
	}
}

// tell lets a peer tell a header that must be taken, new or not.
func (x *pair) tell(peer int, h api.Header) int {
	x.t.Helper()
	id, err := x.next(peer, plainText(h))
	if err != api.OK {
		x.t.Fatalf("of %+v: Next(%d, %+v) = %d, %d", x.m.p, peer, h, id, err)
	}
	return id
}

// refuseFrom lets a peer tell a header that must be refused, for this reason.
func (x *pair) refuseFrom(peer int, h api.Header, want api.Errno) {
	x.t.Helper()
	if _, err := x.next(peer, plainText(h)); err != want {
		x.t.Fatalf("of %+v: Next(%d, %+v): %d, want %d", x.m.p, peer, h, err, want)
	}
}

// send lets a peer go to a header that is kept.
func (x *pair) send(peer int, id int) {
	x.t.Helper()
	if err := x.back(peer, id); err != api.OK {
		x.t.Fatalf("of %+v: Back(%d, %d): %d", x.m.p, peer, id, err)
	}
}

func TestP12Examples(t *testing.T) {
	c := grownExample(t).c
	checkPointsAre(t, c, [4]int{})
	checkNext(t, c, 1, plainText(firstHeader), 0, api.ErrOld)
	checkPointsAre(t, c, [4]int{})
	checkBack(t, c, 1, 2, api.OK)
	checkPointsAre(t, c, [4]int{0, 2, 0, 0})
	checkNext(t, c, 1, plainText(fourthHeader), 4, api.OK)
	checkPointsAre(t, c, [4]int{0, 4, 0, 0})
	checkBack(t, c, 1, 0, api.ErrOld)
	checkBack(t, c, 1, 3, api.ErrNone)
	checkBack(t, c, 4, 1, api.ErrPeer)
	checkPointsAre(t, c, [4]int{0, 4, 0, 0})
	checkStandIs(t, c, 4, 1, []int{1, 2, 4}, []int{0, 1, 2, 4})
}

// The examples' headers once more, from peers alone.
func TestP12HeadersFromPeersAlone(t *testing.T) {
	c := begin(t, exampleParams()).c
	checkPointsAre(t, c, [4]int{})
	for _, step := range []struct {
		peer   int
		h      api.Header
		want   int
		err    api.Errno
		points [4]int
	}{
		{3, firstHeader, 1, api.OK, [4]int{0, 0, 0, 1}},
		{0, firstHeader, 1, api.OK, [4]int{1, 0, 0, 1}},
		{0, firstHeader, 0, api.ErrSlot, [4]int{1, 0, 0, 1}},
		{3, secondHeader, 2, api.OK, [4]int{1, 0, 0, 2}},
		{2, thirdHeader, 3, api.OK, [4]int{1, 0, 3, 2}},
		{0, secondHeader, 2, api.OK, [4]int{2, 0, 3, 2}},
		{0, fourthHeader, 4, api.OK, [4]int{4, 0, 3, 2}},
		{1, firstHeader, 0, api.ErrOld, [4]int{4, 0, 3, 2}},
		{2, fourthHeader, 0, api.ErrNone, [4]int{4, 0, 3, 2}},
		{3, fourthHeader, 4, api.OK, [4]int{4, 0, 3, 4}},
	} {
		checkNext(t, c, step.peer, plainText(step.h), step.want, step.err)
		checkPointsAre(t, c, step.points)
	}
	checkStandIs(t, c, 4, 1, []int{1, 2, 4}, []int{0, 1, 2, 4})
	checkLookIs(t, c, 4, api.Block{Header: fourthHeader, Parent: 2, Height: 3}, api.OK)
}

// Each of four peers goes along a line of its own, in turn: none moves another.
func TestP12EachPointByItself(t *testing.T) {
	x := wide(t, 8)
	points := [4]int{}
	for range 6 {
		for peer := range points {
			h, _ := x.header(points[peer], 100*len(x.m.headers))
			parent := points[peer]
			points[peer] = x.tell(peer, h)
			checkPointsAre(t, x.c, points)
			want := api.Block{Header: h, Parent: parent, Height: x.m.height(parent) + 1}
			checkLookIs(t, x.c, points[peer], want, api.OK)
		}
	}
	for peer, id := range []int{21, 22, 1, 0} {
		x.send(peer, id)
		points[peer] = id
		checkPointsAre(t, x.c, points)
	}
}

// A header from a peer is a header like any other: the tip, what is final and
// what goes with it are as if it had been offered.
func TestP12NewHeaders(t *testing.T) {
	for depth := 1; depth <= 8; depth++ {
		x := wide(t, depth)
		for height := 1; height <= 20; height++ {
			peer := height % 4
			x.send(peer, height-1)
			h, _ := x.header(height-1, x.slotBehind(height-1))
			h.Count++
			h.From, h.To, h.Amount = height%2, (height+1)%2, 1
			if id := x.tell(peer, h); id != height {
				t.Fatalf("the number is %d, want %d", id, height)
			}
			final := max(0, height-depth)
			checkStandIs(t, x.c, height, final, risingTo(final, height), risingTo(0, height))
		}
		x.checkAll()
	}
}

// Headers that are there already: each peer goes along all lines, the numbers
// are those that were given, and nothing else changes.
func TestP12HeadersThatAreThere(t *testing.T) {
	x := wide(t, 8)
	for id := range 13 {
		x.branch(id / 3)
		x.branch(id / 2)
	}
	kept := x.c.Kept()
	for id := 1; id < len(x.m.headers); id++ {
		for peer := range 4 {
			x.send(peer, 0)
			for _, at := range x.m.line(id)[1:] {
				if got := x.tell(peer, x.m.headers[at]); got != at {
					t.Fatalf("the number is %d, want %d", got, at)
				}
			}
		}
	}
	if !slices.Equal(x.c.Kept(), kept) {
		t.Errorf("kept are %v, were %v", x.c.Kept(), kept)
	}
	if id := x.grow(x.m.tip); id != 27 {
		t.Errorf("the next number is %d", id)
	}
}

// The same header behind two parents, and headers that differ in one number:
// the one that is the same, behind the peer's point, is meant.
func TestP12WhichHeaderIsThere(t *testing.T) {
	p := exampleParams()
	p.Room = 40
	x := begin(t, p)
	x.tell(0, firstHeader)
	list := []api.Header{
		{Slot: 2, Pool: 1, Proof: 458},
		{Slot: 2, Pool: 1, Proof: 458, Count: 1},
		{Slot: 2, Pool: 1, Proof: 458, From: 1},
		{Slot: 2, Pool: 1, Proof: 458, To: 1},
		{Slot: 2, Pool: 1, Proof: 458, Amount: 1},
		{Slot: 2, Pool: 0, Proof: 492},
		{Slot: 3, Pool: 0, Proof: 516},
	}
	for round := range 3 {
		for i, h := range list {
			x.send(1, 0)
			x.send(2, 1)
			if x.tell(1, h) != 2+2*i || x.tell(2, h) != 3+2*i {
				t.Fatalf("round %d: header %d is another one", round, i)
			}
		}
	}
}

// A header of zeros alone behind the first header is not that.
func TestP12ZerosAreNotTheFirstHeader(t *testing.T) {
	for nonce := 0; nonce < api.Mod; nonce++ {
		if proof, _ := beacon.Draw(nonce, 0, 0); proof == 0 {
			p := exampleParams()
			p.Nonce = nonce
			x := begin(t, p)
			if x.tell(0, api.Header{}) != 1 || x.tell(1, api.Header{}) != 1 {
				t.Error("the number is not 1")
			}
			checkPointsAre(t, x.c, [4]int{1, 1, 0, 0})
			return
		}
	}
	t.Error("no nonce draws 0")
}

// A full tree takes no new header, but one that is there is found in it.
func TestP12FullTree(t *testing.T) {
	for room := 2; room <= 40; room++ {
		x := begin(t, api.Params{Depth: 8, Epoch: 5, Room: room, A: 19, B: 20, Nonce: 3, Stakes: []int{30, 10}})
		for id := 1; id < room; id++ {
			x.branch(id / 8)
		}
		fork, _ := x.header(0, 9000)
		x.refuseFrom(2, fork, api.ErrFull)
		for id := 1; id < room; id++ {
			x.send(0, x.m.parents[id])
			if got := x.tell(0, x.m.headers[id]); got != id {
				t.Fatalf("the number is %d, want %d", got, id)
			}
			h, _ := x.header(id, 9000)
			x.refuseFrom(0, h, api.ErrFull)
		}
	}
}

// Each error, with all that is named behind it wrong too; the points stay.
func TestP12OrderOfErrors(t *testing.T) {
	x := grownExample(t)
	x.send(0, 4)
	x.send(1, 2)
	points := [4]int{4, 2, 0, 0}
	for _, c := range []struct {
		peer int
		text string
		want api.Errno
	}{
		{-1, "", api.ErrPeer},
		{4, plainText(firstHeader), api.ErrPeer},
		{2, "", api.ErrForm},
		{2, plainText(firstHeader) + "\x00", api.ErrForm},
		{0, "\x87", api.ErrForm},
		{2, plainText(api.Header{Slot: 20000, Pool: 9}), api.ErrOld},
		{0, plainText(api.Header{Slot: 3, Pool: 2, Count: 9, From: 2}), api.ErrSlot},
		{0, plainText(api.Header{Slot: 10001, Pool: 2, Count: 9, From: 2}), api.ErrSlot},
		{0, plainText(api.Header{Slot: math.MaxInt, Pool: 2, Count: 9, From: 2}), api.ErrSlot},
		{1, plainText(api.Header{Slot: 3, Pool: 2, Count: 9, From: 2}), api.ErrPool},
		{1, plainText(api.Header{Slot: 3, Pool: math.MaxInt, Count: 9, From: 2}), api.ErrPool},
		{1, plainText(api.Header{Slot: 3, Count: 0, From: 2, Proof: 515}), api.ErrCount},
		{1, plainText(api.Header{Slot: 3, Count: 3, From: 2, Proof: 515}), api.ErrCount},
		{1, plainText(api.Header{Slot: 3, Count: math.MaxInt, From: 2, Proof: 515}), api.ErrCount},
		{1, plainText(api.Header{Slot: 3, Count: 1, From: 2, Proof: 515}), api.ErrMove},
		{1, plainText(api.Header{Slot: 3, Count: 1, To: 2, Proof: 515}), api.ErrMove},
		{1, plainText(api.Header{Slot: 3, Count: 1, Amount: 2, Proof: 515}), api.ErrMove},
		{1, plainText(api.Header{Slot: 3, Count: 1, Amount: math.MaxInt, Proof: 515}), api.ErrMove},
		{1, plainText(api.Header{Slot: 3, Count: 1, Proof: 515}), api.ErrProof},
		{1, plainText(api.Header{Slot: 3, Count: 1, Proof: 516 + 1<<32}), api.ErrProof},
	} {
		x.next(c.peer, c.text)
		checkNext(t, x.c, c.peer, c.text, 0, c.want)
		checkPointsAre(t, x.c, points)
	}
	x = begin(t, exampleParams())
	x.refuseFrom(3, api.Header{Pool: 1, Proof: 778}, api.ErrLeader)
	x.checkAll()
}

// Headers that are offered move no peer, not even those at their parents.
func TestP12OfferMovesNoPoint(t *testing.T) {
	x := wide(t, 3)
	x.send(2, x.branch(0))
	x.send(3, x.branch(1))
	for range 8 {
		x.branch(x.m.tip)
		checkPointsAre(t, x.c, [4]int{0, 0, 1, 2})
	}
	x.refuse(0, firstHeader, api.ErrOld)
	checkPointsAre(t, x.c, [4]int{0, 0, 1, 2})
}

// To each header that is kept, forth and across too; to none else.
func TestP12Back(t *testing.T) {
	x := wide(t, 3)
	for _, parent := range []int{0, 0, 1, 2, 3, 3, 4, 5, 5, 8} {
		x.branch(parent)
	}
	checkStandIs(t, x.c, 10, 3, []int{3, 5, 6, 8, 9, 10}, []int{0, 1, 3, 5, 8, 10})
	want := []api.Errno{
		api.ErrOld, api.ErrOld, api.ErrNone, api.OK, api.ErrNone, api.OK, api.OK, api.ErrNone, api.OK, api.OK, api.OK,
		api.ErrNone, api.ErrNone,
	}
	points := [4]int{}
	for range 2 {
		for id, err := range want {
			for peer := range points {
				checkBack(t, x.c, peer, id, err)
				if err == api.OK {
					points[peer] = id
				}
				checkPointsAre(t, x.c, points)
			}
		}
	}
	for _, id := range []int{-1, math.MinInt, math.MaxInt, 1 << 32, 3 + 1<<32, 5 - 1<<32} {
		checkBack(t, x.c, 0, id, api.ErrNone)
		checkBack(t, x.c, 4, id, api.ErrPeer)
		checkPointsAre(t, x.c, points)
	}
	checkStandIs(t, x.c, 10, 3, []int{3, 5, 6, 8, 9, 10}, []int{0, 1, 3, 5, 8, 10})
}

// Back alone decides from where a peer goes on.
func TestP12NextBehindBack(t *testing.T) {
	x := wide(t, 8)
	for id := range 12 {
		x.send(id%4, id/2)
		h, _ := x.header(id/2, 50*(id+1))
		got := x.tell(id%4, h)
		checkLookIs(t, x.c, got, api.Block{Header: h, Parent: id / 2, Height: x.m.height(id/2) + 1}, api.OK)
	}
}

// Points that are old or were let go: they stay, and nothing comes behind them
// until the peer goes back to a header that is kept.
func TestP12PointsThatAreKeptNoMore(t *testing.T) {
	for depth := 1; depth <= 8; depth++ {
		x := wide(t, depth)
		side := x.branch(0)
		x.send(1, side)
		start := x.branch(0)
		x.send(2, start)
		for range depth + 1 {
			x.send(3, x.m.tip)
			if x.m.tip == side {
				x.send(3, start)
			}
			h, _ := x.header(x.m.points[3], x.slotBehind(x.m.points[3]))
			x.tell(3, h)
		}
		points := [4]int{0, side, start, x.m.tip}
		for range 5 {
			checkPointsAre(t, x.c, points)
			x.refuseFrom(0, x.m.headers[start], api.ErrOld)
			x.refuseFrom(0, api.Header{Slot: 20000}, api.ErrOld)
			x.refuseFrom(1, x.m.headers[start], api.ErrNone)
			x.refuseFrom(1, api.Header{Slot: 20000}, api.ErrNone)
			x.refuseFrom(2, x.m.headers[start+1], api.ErrOld)
			checkBack(t, x.c, 0, 0, api.ErrOld)
			checkBack(t, x.c, 1, side, api.ErrNone)
			checkBack(t, x.c, 2, 0, api.ErrOld)
			checkNext(t, x.c, 0, "", 0, api.ErrForm)
			x.grow(x.m.tip)
		}
		for peer := range 4 {
			x.send(peer, x.m.final)
			fork, _ := x.header(x.m.final, 5000)
			x.tell(peer, fork)
		}
		x.checkAll()
	}
}

// drawnText draws a text for a peer: of a header that may come behind its
// point, of one that is there, of one that is spoilt, or of none.
func (x *pair) drawnText(r *rand.Rand, peer int) string {
	point := x.m.points[peer]
	h := x.drawnHeader(r, point)
	text := plainText(h)
	switch r.Intn(10) {
	case 0:
		text = plainText(spoil(r, h))
	case 1:
		text = plainText(x.ofAnyPool(r, point, h))
	case 2:
		text = text[:r.Intn(len(text))]
	case 3:
		bytes := []byte(text)
		bytes[r.Intn(len(bytes))] = byte(r.Intn(256))
		text = string(bytes)
	case 4, 5, 6:
		for id := range x.m.headers {
			if x.m.parents[id] == point && r.Intn(2) == 0 {
				return plainText(x.m.headers[id])
			}
		}
	}
	return text
}

// goOn draws what comes next: mostly from a peer, now and then an offer, or a
// peer that goes elsewhere.
func (x *pair) goOn(r *rand.Rand) api.Errno {
	x.t.Helper()
	peer := r.Intn(4)
	switch r.Intn(8) {
	case 0:
		return x.offerDrawn(r)
	case 1:
		return x.back(peer, r.Intn(len(x.m.headers)+2)-1)
	case 2, 3:
		return x.back(peer, x.nearTheTop(r))
	}
	text := x.drawnText(r, peer)
	if r.Intn(20) == 0 {
		peer = wildNumbers[r.Intn(len(wildNumbers))]
	}
	_, err := x.next(peer, text)
	return err
}

// Drawn chains with peers, held against the model after every call.
func TestP12DrawnPeers(t *testing.T) {
	r := rand.New(rand.NewSource(31))
	seen := map[api.Errno]int{}
	there := 0
	for range 150 {
		x := drawnPair(t, r)
		for range 100 {
			number, points := len(x.m.headers), x.m.points
			err := x.goOn(r)
			seen[err]++
			if err == api.OK && number == len(x.m.headers) && points != x.m.points {
				there++
			}
		}
		x.checkAll()
	}
	for err := api.OK; err <= api.ErrForm; err++ {
		if err != api.ErrArg && seen[err] < 10 {
			t.Errorf("the error %d was seen %d times", err, seen[err])
		}
	}
	if there < 500 {
		t.Errorf("%d times a peer went to a header that was there", there)
	}
}

// Peers that are none, and texts of every kind: nothing panics or changes.
func TestP1PeersAtWildNumbers(t *testing.T) {
	x := grownExample(t)
	x.send(0, 4)
	x.send(1, 2)
	x.send(2, 1)
	list := []string{"", "\x87", "x", plainText(firstHeader), plainText(api.Header{Slot: math.MaxInt})}
	for _, peer := range wildNumbers {
		for _, text := range list {
			if !isPeer(peer) {
				checkNext(t, x.c, peer, text, 0, api.ErrPeer)
			}
			x.next(peer, text)
		}
		for _, id := range wildNumbers {
			if !isPeer(peer) {
				checkBack(t, x.c, peer, id, api.ErrPeer)
			}
			if x.m.whyNot(id) != api.OK {
				x.back(peer, id)
			}
		}
		if point, err := x.c.Point(peer); !isPeer(peer) && (point != 0 || err != api.ErrPeer) {
			t.Errorf("Point(%d) = %d, %d", peer, point, err)
		}
	}
	checkPointsAre(t, x.c, [4]int{4, 2, 1, 0})
	x.checkAll()
}

// Every cut of a text that would be taken, and every two numbers of a header at
// once, from peers at every kind of point.
func TestP1TextsFromPeers(t *testing.T) {
	x := grownExample(t)
	x.send(0, 4)
	x.send(1, 1)
	good, _ := x.header(4, 4)
	text := plainText(good)
	for peer := range 4 {
		for cut := range len(text) {
			checkNext(t, x.c, peer, text[:cut], 0, api.ErrForm)
			x.checkStand()
		}
		for i := range 7 {
			for j := range 7 {
				for _, m := range wildNumbers {
					for _, n := range wildNumbers {
						h := good
						*numbersOf(&h)[i], *numbersOf(&h)[j] = m, n
						if x.m.refusal(x.m.points[peer], h) != api.OK {
							x.next(peer, plainText(h))
						}
					}
				}
			}
		}
	}
	checkPointsAre(t, x.c, [4]int{4, 1, 0, 0})
	x.checkAll()
	if id := x.tell(0, good); id != 5 {
		t.Errorf("the number behind so many refusals is %d", id)
	}
}

// Chains grow side by side, two of them with the same numbers: no peer of one
// is moved by what comes to another.
func TestP2PointsOfSeveralChains(t *testing.T) {
	r := rand.New(rand.NewSource(32))
	for range 10 {
		p := drawnParams(r)
		list := []*pair{begin(t, p), begin(t, p), drawnPair(t, r)}
		for range 80 {
			list[r.Intn(len(list))].goOn(r)
			for _, x := range list {
				x.checkStand()
			}
		}
	}
	one, other := begin(t, exampleParams()), begin(t, exampleParams())
	one.tell(0, firstHeader)
	checkPointsAre(t, one.c, [4]int{1, 0, 0, 0})
	checkPointsAre(t, other.c, [4]int{})
	other.tell(0, thirdHeader)
	other.tell(3, firstHeader)
	checkPointsAre(t, one.c, [4]int{1, 0, 0, 0})
	checkPointsAre(t, other.c, [4]int{1, 0, 0, 2})
}

// Two chains that heard the same calls answer the same, with any questions in
// between.
func TestP2SameCallsSameAnswers(t *testing.T) {
	r := rand.New(rand.NewSource(33))
	for range 20 {
		seed := r.Int63()
		p := drawnParams(r)
		one, other := begin(t, p), begin(t, p)
		left, right := rand.New(rand.NewSource(seed)), rand.New(rand.NewSource(seed))
		for range 60 {
			err := one.goOn(left)
			other.checkAll()
			beacon.Decode(plainText(firstHeader))
			if otherErr := other.goOn(right); err != otherErr {
				t.Fatalf("one answers %d, the other %d", err, otherErr)
			}
			checkStandIs(t, other.c, one.c.Tip(), one.c.Final(), one.c.Kept(), one.c.Path())
			checkPointsAre(t, other.c, one.m.points)
		}
	}
}

package beacon_test

import (
	"math/rand"
	"slices"
	"testing"

	"beacon/api"
	"beacon/beacon"
)

// stand is what callers lean on as headers come, told by the calls alone.
type stand struct {
	tip, height int
	path, final []int
}

func standOf(t *testing.T, c *beacon.Chain) stand {
	t.Helper()
	path := c.Path()
	at := slices.Index(path, c.Final())
	block, err := c.Look(c.Tip())
	if at < 0 || err != api.OK || path[len(path)-1] != c.Tip() {
		t.Fatalf("the path is %v, the tip %d, final is %d", path, c.Tip(), c.Final())
	}
	return stand{c.Tip(), block.Height, path, path[:at+1]}
}

// givenUp tells how many headers of the chain that was chosen are not in the
// one that is chosen now.
func givenUp(before stand, now stand) int {
	number := 0
	for _, id := range before.path {
		if !slices.Contains(now.path, id) {
			number++
		}
	}
	return number
}

// checkFollows holds P13 of a header that was just accepted.
func checkFollows(t *testing.T, c *beacon.Chain, depth int, before stand, id int) int {
	t.Helper()
	now := standOf(t, c)
	block, err := c.Look(id)
	if err != api.OK {
		t.Fatalf("Look(%d) of the header that was just accepted: %d", id, err)
	}
	if now.tip != before.tip && (now.tip != id || now.height <= before.height) {
		t.Fatalf("the tip went from %d to %d, of the heights %d and %d; %d was accepted", before.tip, now.tip, before.height, now.height, id)
	}
	if (now.tip == id) != (block.Height > before.height) {
		t.Fatalf("the tip is %d, %d was accepted, with the height %d above %d", now.tip, id, block.Height, before.height)
	}
	if len(now.final) < len(before.final) || !slices.Equal(now.final[:len(before.final)], before.final) {
		t.Fatalf("the final header's line was %v, is %v", before.final, now.final)
	}
	if givenUp(before, now) > depth {
		t.Fatalf("the path was %v, is %v: with depth %d", before.path, now.path, depth)
	}
	return givenUp(before, now)
}

// checkTotal holds that the stakes of all pools together are the total, with
// every header that is kept.
func checkTotal(t *testing.T, c *beacon.Chain, pools int, total int) {
	t.Helper()
	for _, id := range c.Kept() {
		sum := 0
		for pool := range pools {
			stake, err := c.Stake(id, pool)
			if stake < 0 || err != api.OK {
				t.Fatalf("Stake(%d, %d) = %d, %d", id, pool, stake, err)
			}
			sum += stake
		}
		if sum != total {
			t.Fatalf("the stakes of header %d are %d together, want %d", id, sum, total)
		}
	}
}

// Drawn headers, offered and from peers, most of them near the top, so that
// lines overtake each other often.
func TestP13DrawnHeaders(t *testing.T) {
	r := rand.New(rand.NewSource(41))
	mostGivenUp, fork := map[int]int{}, 0
	for range 200 {
		x := drawnPair(t, r)
		for range 80 {
			before, number := standOf(t, x.c), len(x.m.headers)
			if r.Intn(2) == 0 {
				parent := x.nearTheTop(r)
				x.offer(parent, x.drawnHeader(r, parent))
			} else {
				x.goOn(r)
			}
			if len(x.m.headers) == number {
				if now := standOf(t, x.c); now.tip != before.tip || !slices.Equal(now.path, before.path) || !slices.Equal(now.final, before.final) {
					t.Fatalf("nothing was accepted, but %+v came behind %+v", now, before)
				}
				continue
			}
			lost := checkFollows(t, x.c, x.m.p.Depth, before, number)
			mostGivenUp[x.m.p.Depth] = max(mostGivenUp[x.m.p.Depth], lost)
			if lost > 0 {
				fork++
			}
			checkTotal(t, x.c, len(x.m.p.Stakes), x.m.total())
		}
	}
	if fork < 200 || mostGivenUp[1] < 1 || mostGivenUp[2] < 2 || mostGivenUp[3] < 3 {
		t.Errorf("headers were given up %d times, at most %v", fork, mostGivenUp)
	}
}

// As many headers are given up at once as Depth says, and not one more: a line
// that parts ahead of the final header never comes to be chosen.
func TestP13GivenUpAtOnce(t *testing.T) {
	for depth := 1; depth <= 8; depth++ {
		for lost := 1; lost <= depth; lost++ {
			x := wide(t, depth)
			at := 0
			for range 10 {
				at = x.branch(at)
			}
			line := x.m.line(at)
			right := line[len(line)-1-lost]
			for range lost {
				right = x.branch(right)
				checkStandIs(t, x.c, at, line[10-depth], x.m.keptList(), line)
			}
			before := standOf(t, x.c)
			id := x.branch(right)
			if got := checkFollows(t, x.c, depth, before, id); got != lost || x.c.Tip() != id {
				t.Fatalf("with depth %d: %d headers were given up, want %d", depth, got, lost)
			}
		}
		x := wide(t, depth)
		at := lineTo(x, 10)
		old := at - depth - 1
		h, _ := x.header(x.m.final, x.slotBehind(at))
		x.refuse(old, h, api.ErrOld)
		x.send(0, at)
		checkBack(t, x.c, 0, old, api.ErrOld)
	}
}

// drawnPlan draws a tree of many headers, by a model that never lets go of any.
func drawnPlan(t *testing.T, r *rand.Rand, p api.Params, number int) *model {
	t.Helper()
	p.Depth, p.Room = 1<<30, 1<<30
	x := &pair{t: t, m: newModel(p)}
	for try := 0; len(x.m.headers) <= number && try < 10*number; try++ {
		parent := x.nearTheTop(r)
		if r.Intn(4) == 0 {
			parent = r.Intn(len(x.m.headers))
		}
		x.m.offer(parent, x.drawnHeader(r, parent))
	}
	return x.m
}

// drawnOrder draws an order of a plan's headers in which parents come ahead of
// their children. The wider, the less it is the plan's own.
func drawnOrder(r *rand.Rand, plan *model, width int) []int {
	var order []int
	came := map[int]bool{0: true}
	for len(order) < len(plan.headers)-1 {
		var ready []int
		for id := 1; id < len(plan.headers) && len(ready) < width; id++ {
			if !came[id] && came[plan.parents[id]] {
				ready = append(ready, id)
			}
		}
		id := ready[r.Intn(len(ready))]
		came[id] = true
		order = append(order, id)
	}
	return order
}

// goes is what goes with a header, told by the calls alone.
type goes struct {
	header         api.Header
	height         int
	stakes, counts []int
	turns          []api.Turn
}

func (g goes) isSame(other goes) bool {
	return g.header == other.header && g.height == other.height && slices.Equal(g.stakes, other.stakes) &&
		slices.Equal(g.counts, other.counts) && slices.Equal(g.turns, other.turns)
}

func goesWith(t *testing.T, c *beacon.Chain, id int, p api.Params) goes {
	t.Helper()
	block, err := c.Look(id)
	if err != api.OK {
		t.Fatalf("Look(%d): %d", id, err)
	}
	all := goes{header: block.Header, height: block.Height}
	slot := block.Header.Slot
	for pool := range p.Stakes {
		stake, stakeErr := c.Stake(id, pool)
		count, countErr := c.Count(id, pool)
		if stakeErr != api.OK || countErr != api.OK {
			t.Fatalf("of header %d, pool %d: %d, %d", id, pool, stakeErr, countErr)
		}
		all.stakes = append(all.stakes, stake)
		all.counts = append(all.counts, count)
		for _, ahead := range []int{1, 2, p.Epoch, p.Epoch + 1, 2 * p.Epoch, 3*p.Epoch + 1} {
			turn, err := c.Turn(id, slot+ahead, pool)
			if err != api.OK {
				t.Fatalf("Turn(%d, %d, %d): %d", id, slot+ahead, pool, err)
			}
			all.turns = append(all.turns, turn)
		}
	}
	return all
}

// follower is a chain that is given a plan's headers, and their numbers on it.
type follower struct {
	c     *beacon.Chain
	p     api.Params
	ids   map[int]int
	plans map[int]int
}

// give lets a header of the plan come, offered or from a peer, if its parent
// is kept still.
func (f *follower) give(t *testing.T, r *rand.Rand, plan *model, id int) bool {
	t.Helper()
	parent, came := f.ids[plan.parents[id]]
	if !came {
		return false
	}
	before := standOf(t, f.c)
	got, err := 0, api.OK
	if peer := r.Intn(8); peer < 4 {
		err = f.c.Back(peer, parent)
		if err == api.OK {
			got, err = f.c.Next(peer, plainText(plan.headers[id]))
		}
	} else {
		got, err = f.c.Offer(parent, plan.headers[id])
	}
	if err == api.ErrOld || err == api.ErrNone || err == api.ErrFull {
		return false
	}
	if err != api.OK {
		t.Fatalf("%+v behind %d: %d", plan.headers[id], parent, err)
	}
	f.ids[id], f.plans[got] = got, id
	checkFollows(t, f.c, f.p.Depth, before, got)
	return true
}

// One plan in many orders, on chains of several depths and rooms: what goes
// with a header is the same wherever it is kept.
func TestP13ManyOrders(t *testing.T) {
	r := rand.New(rand.NewSource(42))
	compared := 0
	for range 12 {
		p := drawnParams(r)
		plan := drawnPlan(t, r, p, 30)
		known := map[int]goes{}
		for width := 1; width <= 10; width++ {
			p.Depth, p.Room = 1+r.Intn(8), 10+r.Intn(31)
			c, err := beacon.New(p)
			if c == nil || err != api.OK {
				t.Fatalf("New(%+v): %d", p, err)
			}
			f := &follower{c: c, p: p, ids: map[int]int{0: 0}, plans: map[int]int{0: 0}}
			for _, id := range drawnOrder(r, plan, width) {
				if !f.give(t, r, plan, id) {
					continue
				}
				checkTotal(t, c, len(p.Stakes), plan.total())
				compared += f.compare(t, known)
			}
		}
	}
	if compared < 5000 {
		t.Errorf("headers were compared %d times", compared)
	}
}

// compare holds what goes with each header that is kept against what went with
// it wherever it was kept first.
func (f *follower) compare(t *testing.T, known map[int]goes) int {
	t.Helper()
	compared := 0
	for _, at := range f.c.Kept() {
		all := goesWith(t, f.c, at, f.p)
		id := f.plans[at]
		if first, is := known[id]; !is {
			known[id] = all
		} else if !first.isSame(all) {
			t.Fatalf("of %+v: with header %d goes %+v, on another chain %+v", f.p, id, all, first)
		}
		compared++
	}
	return compared
}

// A tree of two lines in every order there is: where nothing is final yet, the
// tip alone hangs on the order, and of two lines of one length the first to
// get there is chosen.
func TestP13EveryOrderOfTwoLines(t *testing.T) {
	x := wide(t, 8)
	left, right := []int{0}, []int{0}
	for range 4 {
		left = append(left, x.branch(left[len(left)-1]))
		right = append(right, x.branch(right[len(right)-1]))
	}
	want := map[int]goes{}
	for _, id := range x.c.Kept() {
		want[id] = goesWith(t, x.c, id, x.m.p)
	}
	for order := range 1 << 8 {
		f := &follower{c: wide(t, 8).c, p: x.m.p, ids: map[int]int{0: 0}, plans: map[int]int{0: 0}}
		r := rand.New(rand.NewSource(int64(order)))
		at := [2]int{}
		first := -1
		for bit := range 8 {
			side := order >> bit & 1
			if at[side] == 4 {
				side = 1 - side
			}
			at[side]++
			if at[side] == 4 && first < 0 {
				first = side
			}
			id := [][]int{left, right}[side][at[side]]
			if !f.give(t, r, x.m, id) {
				t.Fatalf("header %d was refused", id)
			}
		}
		f.compare(t, want)
		if tip := f.plans[f.c.Tip()]; tip != [][]int{left, right}[first][4] {
			t.Fatalf("in order %b the tip is header %d", order, tip)
		}
	}
}

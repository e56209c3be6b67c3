package beacon_test

import (
	"math"
	"math/big"
	"math/rand"
	"testing"

	"beacon/api"
	"beacon/beacon"
)

const maxTotal = api.MaxPools * api.MaxStake

type leadsCall struct{ proof, stake, total, a, b int }

func checkLeads(t *testing.T, c leadsCall, want bool, wantErr api.Errno) {
	t.Helper()
	got, err := beacon.Leads(c.proof, c.stake, c.total, c.a, c.b)
	if got != want || err != wantErr {
		t.Errorf("Leads(%+v) = %v, %d, want %v, %d", c, got, err, want, wantErr)
	}
}

func checkDraw(t *testing.T, nonce int, slot int, pool int, want int, wantErr api.Errno) {
	t.Helper()
	got, err := beacon.Draw(nonce, slot, pool)
	if got != want || err != wantErr {
		t.Errorf("Draw(%d, %d, %d) = %d, %d, want %d, %d", nonce, slot, pool, got, err, want, wantErr)
	}
}

func power(n int, k int) *big.Int {
	return new(big.Int).Exp(big.NewInt(int64(n)), big.NewInt(int64(k)), nil)
}

// exactEdge tells the least proof that does not lead. It asks for the greatest
// x with (x/Sides)^total at most ((b-a)/b)^stake: the edge is Sides - x.
func exactEdge(stake int, total int, a int, b int) int {
	bound := new(big.Rat).SetFrac(power(b-a, stake), power(b, stake))
	low, high := 0, api.Sides+1
	for high-low > 1 {
		middle := (low + high) / 2
		x := new(big.Rat).SetFrac(power(middle, total), power(api.Sides, total))
		if x.Cmp(bound) <= 0 {
			low = middle
		} else {
			high = middle
		}
	}
	return api.Sides - low
}

func checkAroundEdge(t *testing.T, stake int, total int, a int, b int) {
	t.Helper()
	edge := exactEdge(stake, total, a, b)
	for _, proof := range []int{0, edge - 2, edge - 1, edge, edge + 1, api.Sides - 1} {
		if proof >= 0 && proof < api.Sides {
			checkLeads(t, leadsCall{proof, stake, total, a, b}, proof < edge, api.OK)
		}
	}
}

func TestP3Examples(t *testing.T) {
	for _, c := range []struct {
		call leadsCall
		want bool
	}{
		{leadsCall{0, 0, 1, 1, 2}, false},
		{leadsCall{0, 1, 100, 1, 20}, true},
		{leadsCall{511, 1, 1, 1, 2}, true},
		{leadsCall{512, 1, 1, 1, 2}, false},
		{leadsCall{299, 1, 2, 1, 2}, true},
		{leadsCall{300, 1, 2, 1, 2}, false},
		{leadsCall{1023, 240, 240, 19, 20}, false},
		{leadsCall{972, 240, 240, 19, 20}, true},
		{leadsCall{973, 240, 240, 19, 20}, false},
	} {
		checkLeads(t, c.call, c.want, api.OK)
	}
}

// At these the two sides are equal, which is not less: every one there is, of
// fractions in lowest terms.
func TestP3EqualSides(t *testing.T) {
	for _, c := range []leadsCall{
		{512, 1, 1, 1, 2}, {256, 1, 1, 1, 4}, {768, 1, 1, 3, 4}, {512, 1, 2, 3, 4},
		{128, 1, 1, 1, 8}, {384, 1, 1, 3, 8}, {640, 1, 1, 5, 8}, {896, 1, 1, 7, 8},
		{512, 1, 3, 7, 8}, {768, 2, 3, 7, 8}, {64, 1, 1, 1, 16}, {192, 1, 1, 3, 16},
		{320, 1, 1, 5, 16}, {448, 1, 1, 7, 16}, {256, 1, 2, 7, 16}, {576, 1, 1, 9, 16},
		{704, 1, 1, 11, 16}, {832, 1, 1, 13, 16}, {960, 1, 1, 15, 16},
		{768, 1, 2, 15, 16}, {512, 1, 4, 15, 16}, {896, 3, 4, 15, 16},
	} {
		for _, share := range []int{1, 2, 7, 59, maxTotal / c.total} {
			for part := 1; part*c.b <= api.MaxPart; part++ {
				call := leadsCall{c.proof, c.stake * share, c.total * share, c.a * part, c.b * part}
				if call.total > maxTotal {
					continue
				}
				checkLeads(t, call, false, api.OK)
				call.proof = c.proof - 1
				checkLeads(t, call, true, api.OK)
				call.proof = c.proof + 1
				checkLeads(t, call, false, api.OK)
			}
		}
	}
}

// At these the sides are nearest to each other without being equal: the edge
// is less than 0.000003 away from the proof.
func TestP3NearlyEqualSides(t *testing.T) {
	for _, c := range []leadsCall{
		{31, 29, 223, 4, 19}, {13, 19, 85, 1, 18}, {874, 167, 223, 12, 13}, {99, 71, 120, 3, 19},
		{777, 117, 154, 11, 13}, {606, 185, 238, 13, 19}, {98, 35, 208, 9, 20}, {57, 52, 79, 1, 12},
		{32, 52, 205, 2, 17}, {200, 19, 112, 13, 18}, {38, 60, 127, 1, 13}, {112, 47, 197, 5, 13},
		{438, 109, 195, 12, 19}, {325, 34, 235, 13, 14}, {63, 49, 222, 1, 4}, {56, 13, 238, 9, 14},
	} {
		edge := exactEdge(c.stake, c.total, c.a, c.b)
		if edge != c.proof && edge != c.proof+1 {
			t.Fatalf("%+v: the edge is %d", c, edge)
		}
		checkAroundEdge(t, c.stake, c.total, c.a, c.b)
	}
}

func TestP3AroundEdges(t *testing.T) {
	for b := 2; b <= api.MaxPart; b++ {
		for a := 1; a < b; a++ {
			for _, total := range []int{1, 2, 127, maxTotal} {
				for _, stake := range []int{0, 1, total / 2, total - 1, total} {
					checkAroundEdge(t, stake, total, a, b)
				}
			}
		}
	}
	r := rand.New(rand.NewSource(2))
	for range 1000 {
		total, b := 1+r.Intn(maxTotal), 2+r.Intn(api.MaxPart-1)
		checkAroundEdge(t, r.Intn(total+1), total, 1+r.Intn(b-1), b)
	}
}

func TestP3EveryProof(t *testing.T) {
	for _, c := range []leadsCall{{0, 1, 2, 1, 2}, {0, 0, 240, 19, 20}, {0, 17, 240, 3, 20}, {0, 239, 240, 19, 20}} {
		edge := exactEdge(c.stake, c.total, c.a, c.b)
		for c.proof = 0; c.proof < api.Sides; c.proof++ {
			checkLeads(t, c, c.proof < edge, api.OK)
		}
	}
}

func TestP3EdgesOfRanges(t *testing.T) {
	for _, c := range []leadsCall{
		{-1, 1, 1, 1, 2}, {1024, 1, 1, 1, 2},
		{0, 0, 0, 1, 2}, {0, 0, -1, 1, 2}, {0, -1, -1, 1, 2}, {0, 1, 241, 1, 2}, {0, 241, 241, 1, 2},
		{0, -1, 1, 1, 2}, {0, 2, 1, 1, 2}, {0, 241, 240, 1, 2},
		{0, 1, 1, 1, 1}, {0, 1, 1, 0, 1}, {0, 1, 1, 0, 0}, {0, 1, 1, -1, 0}, {0, 1, 1, -2, -1}, {0, 1, 1, 1, 21}, {0, 1, 1, 20, 21},
		{0, 1, 1, 0, 2}, {0, 1, 1, -1, 2}, {0, 1, 1, 2, 2}, {0, 1, 1, 3, 2}, {0, 1, 1, 20, 20},
		{-1, -1, 0, 0, 1},
	} {
		checkLeads(t, c, false, api.ErrArg)
	}
	for _, c := range []leadsCall{
		{0, 1, 1, 1, 2}, {0, 1, 240, 1, 2}, {0, 240, 240, 1, 2}, {0, 1, 1, 1, 20}, {0, 1, 1, 19, 20},
	} {
		checkLeads(t, c, true, api.OK)
	}
	for _, c := range []leadsCall{{0, 0, 1, 1, 2}, {0, 0, 240, 19, 20}, {1023, 1, 1, 1, 2}} {
		checkLeads(t, c, false, api.OK)
	}
}

func TestP4ExamplesAndEdges(t *testing.T) {
	for _, c := range []struct{ nonce, slot, pool, want int }{
		{0, 0, 0, 236}, {0, 0, 1, 778}, {0, 2, 0, 492}, {0, 2, 1, 458}, {0, 3, 0, 516}, {1, 0, 0, 978},
		{65520, 10000, 5, 171}, {65520, 0, 0, 39}, {0, 10000, 0, 288}, {0, 0, 5, 692},
	} {
		checkDraw(t, c.nonce, c.slot, c.pool, c.want, api.OK)
	}
}

// exactDraw works in numbers of any size, so that nothing can overflow.
func exactDraw(nonce int, slot int, pool int) int {
	mod := big.NewInt(api.Mod)
	t := new(big.Int).Mul(big.NewInt(int64(nonce)), big.NewInt(4099))
	t.Add(t, new(big.Int).Mul(big.NewInt(int64(slot)), big.NewInt(769)))
	t.Add(t, new(big.Int).Mul(big.NewInt(int64(pool)), big.NewInt(97)))
	t.Add(t, big.NewInt(12345))
	t.Mod(t, mod)
	s := new(big.Int).Mul(t, t)
	s.Mod(s, mod)
	return int(s.Mod(s, big.NewInt(api.Sides)).Int64())
}

func TestP4Draws(t *testing.T) {
	for _, nonce := range []int{0, 1, 2, 32768, 61402, 65519, 65520} {
		for _, slot := range []int{0, 1, 5, 85, 4999, 9999, 10000} {
			for pool := range api.MaxPools {
				checkDraw(t, nonce, slot, pool, exactDraw(nonce, slot, pool), api.OK)
			}
		}
	}
	r := rand.New(rand.NewSource(3))
	for range 20000 {
		nonce, slot, pool := r.Intn(api.Mod), r.Intn(api.MaxSlot+1), r.Intn(api.MaxPools)
		checkDraw(t, nonce, slot, pool, exactDraw(nonce, slot, pool), api.OK)
	}
}

func TestP4Errors(t *testing.T) {
	for _, c := range []struct {
		nonce, slot, pool int
		want              api.Errno
	}{
		{-1, 0, 0, api.ErrArg}, {65521, 0, 0, api.ErrArg},
		{0, -1, 0, api.ErrSlot}, {0, 10001, 0, api.ErrSlot},
		{0, 0, -1, api.ErrPool}, {0, 0, 6, api.ErrPool},
		{-1, -1, 0, api.ErrArg}, {65521, 0, 6, api.ErrArg}, {65521, 10001, 6, api.ErrArg},
		{65520, 10001, 6, api.ErrSlot}, {0, -1, -1, api.ErrSlot}, {65520, 10000, 6, api.ErrPool},
	} {
		checkDraw(t, c.nonce, c.slot, c.pool, 0, c.want)
	}
}

// wildNumbers stand at and around every edge, and at the ends of int.
var wildNumbers = []int{
	math.MinInt, math.MinInt + 1, -1 << 32, -1024, -1, 0, 1, 2, 3, 5, 6, 19, 20, 21, 240, 241,
	1023, 1024, 10000, 10001, 65520, 65521, 1 << 32, 1 << 62, math.MaxInt - 1, math.MaxInt,
}

func leadsMayBe(c leadsCall) bool {
	return c.proof >= 0 && c.proof <= 1023 && c.total >= 1 && c.total <= 240 && c.stake >= 0 && c.stake <= c.total &&
		c.b >= 2 && c.b <= 20 && c.a >= 1 && c.a <= c.b-1
}

func TestP1LeadsAtWildNumbers(t *testing.T) {
	wild := []int{math.MinInt, math.MinInt + 1, -1, 0, 1, 2, 19, 20, 240, 1023, 1 << 62, math.MaxInt}
	for _, proof := range wildNumbers {
		for _, stake := range wild {
			for _, total := range wild {
				for _, a := range wild {
					for _, b := range wild {
						c := leadsCall{proof, stake, total, a, b}
						got, err := beacon.Leads(proof, stake, total, a, b)
						if leadsMayBe(c) && err != api.OK || !leadsMayBe(c) && (got || err != api.ErrArg) {
							t.Fatalf("Leads(%+v) = %v, %d", c, got, err)
						}
					}
				}
			}
		}
	}
}

func drawError(nonce int, slot int, pool int) api.Errno {
	switch {
	case nonce < 0 || nonce > 65520:
		return api.ErrArg
	case slot < 0 || slot > 10000:
		return api.ErrSlot
	case pool < 0 || pool > 5:
		return api.ErrPool
	}
	return api.OK
}

func TestP1DrawAtWildNumbers(t *testing.T) {
	for _, nonce := range wildNumbers {
		for _, slot := range wildNumbers {
			for _, pool := range wildNumbers {
				want, wantErr := 0, drawError(nonce, slot, pool)
				if wantErr == api.OK {
					want = exactDraw(nonce, slot, pool)
				}
				checkDraw(t, nonce, slot, pool, want, wantErr)
			}
		}
	}
}

// The calls are asked again in another order, with calls that are refused
// among them, so that anything one of them left behind would show.
func TestP2SameAnswerEachTime(t *testing.T) {
	type asked struct {
		leads             leadsCall
		nonce, slot, pool int
		led               bool
		proof             int
		leadsErr, drawErr api.Errno
	}
	r := rand.New(rand.NewSource(4))
	var list []asked
	for range 500 {
		total, b := 1+r.Intn(maxTotal+2), 2+r.Intn(api.MaxPart)
		q := asked{leads: leadsCall{r.Intn(api.Sides + 20), r.Intn(total + 1), total, r.Intn(b), b}}
		q.nonce, q.slot, q.pool = r.Intn(api.Mod+2000), r.Intn(api.MaxSlot+300), r.Intn(api.MaxPools+1)
		q.led, q.leadsErr = beacon.Leads(q.leads.proof, q.leads.stake, q.leads.total, q.leads.a, q.leads.b)
		q.proof, q.drawErr = beacon.Draw(q.nonce, q.slot, q.pool)
		list = append(list, q)
	}
	for range 2 {
		r.Shuffle(len(list), func(i, j int) { list[i], list[j] = list[j], list[i] })
		for _, q := range list {
			checkDraw(t, q.nonce, q.slot, q.pool, q.proof, q.drawErr)
			checkLeads(t, q.leads, q.led, q.leadsErr)
		}
	}
}

// Package ledger: the numbers that go with a header, and the headers that may come behind it.
package ledger

import (
	"beacon/api"
	"beacon/draw"
)

// noSlot is the first header's: every slot is greater.
const noSlot = -1

// epochOfFirst is below all, even below the one ahead of epoch 0: in epochs 0
// and 1 the stakes that count are the first header's.
const epochOfFirst = -2

// Rules is what a chain began with and what never changes.
type Rules struct {
	epoch int
	a, b  int
	pools int
	total int
}

// Page is what goes with a header. A slot behind it may need numbers of
// earlier headers in its line: they stand here too, since those headers may be
// kept no more.
type Page struct {
	slot    int
	stakes  [api.MaxPools]int
	counts  [api.MaxPools]int
	running int
	// Of the last header in the line that is of an epoch below this one's.
	nonce  int
	before [api.MaxPools]int
	// Of the last one that is of an epoch below the one ahead of this one's.
	longBefore [api.MaxPools]int
}

// Begin tells the rules and what goes with the first header (P5).
func Begin(p api.Params) (Rules, Page, api.Errno) {
	if p.Epoch < 1 || p.Epoch > api.MaxEpoch {
		return Rules{}, Page{}, api.ErrArg
	}
	if p.B < 2 || p.B > api.MaxPart || p.A < 1 || p.A >= p.B {
		return Rules{}, Page{}, api.ErrArg
	}
	if p.Nonce < 0 || p.Nonce >= api.Mod {
		return Rules{}, Page{}, api.ErrArg
	}
	stakes, total, err := readStakes(p.Stakes)
	if err != api.OK {
		return Rules{}, Page{}, err
	}
	rules := Rules{epoch: p.Epoch, a: p.A, b: p.B, pools: len(p.Stakes), total: total}
	return rules, Page{slot: noSlot, stakes: stakes, running: p.Nonce}, api.OK
}

// readStakes copies the stakes, since the caller may change the list later.
func readStakes(list []int) ([api.MaxPools]int, int, api.Errno) {
	stakes := [api.MaxPools]int{}
	total := 0
	if len(list) > api.MaxPools {
		return [api.MaxPools]int{}, 0, api.ErrArg
	}
	for i := 0; i < len(list); i++ {
		if list[i] < 0 || list[i] > api.MaxStake {
			return [api.MaxPools]int{}, 0, api.ErrArg
		}
		stakes[i] = list[i]
		total += list[i]
	}
	if total == 0 {
		return [api.MaxPools]int{}, 0, api.ErrArg
	}
	return stakes, total, api.OK
}

// Stake tells a pool's stake (P6).
func (r Rules) Stake(page Page, pool int) (int, api.Errno) {
	if !r.isPool(pool) {
		return 0, api.ErrPool
	}
	return page.stakes[pool], api.OK
}

// Count tells a pool's count (P6).
func (r Rules) Count(page Page, pool int) (int, api.Errno) {
	if !r.isPool(pool) {
		return 0, api.ErrPool
	}
	return page.counts[pool], api.OK
}

// Turn tells what goes for a pool in a slot behind the page's header (P6).
func (r Rules) Turn(page Page, slot int, pool int) (api.Turn, api.Errno) {
	if slot <= page.slot || slot > api.MaxSlot {
		return api.Turn{}, api.ErrSlot
	}
	if !r.isPool(pool) {
		return api.Turn{}, api.ErrPool
	}
	epoch := r.epochOf(slot)
	nonce := r.nonceIn(page, epoch)
	stakes := r.stakesIn(page, epoch)
	proof, err := draw.Proof(nonce, slot, pool)
	if err != api.OK {
		return api.Turn{}, err
	}
	leads, err := draw.Leads(proof, stakes[pool], r.total, r.a, r.b)
	if err != api.OK {
		return api.Turn{}, err
	}
	return api.Turn{Nonce: nonce, Proof: proof, Stake: stakes[pool], Leads: leads}, api.OK
}

// Next checks a header that comes behind the page's one, by all of P7 that
// hangs on the line alone, and tells what goes with it.
func (r Rules) Next(page Page, h api.Header) (Page, api.Errno) {
	turn, err := r.Turn(page, h.Slot, h.Pool)
	if err != api.OK {
		return Page{}, err
	}
	count := page.counts[h.Pool]
	if h.Count != count && h.Count != count+1 {
		return Page{}, api.ErrCount
	}
	if !r.mayMove(page, h) {
		return Page{}, api.ErrMove
	}
	if h.Proof != turn.Proof {
		return Page{}, api.ErrProof
	}
	if !turn.Leads {
		return Page{}, api.ErrLeader
	}
	return r.after(page, h), api.OK
}

func (r Rules) isPool(pool int) bool {
	return pool >= 0 && pool < r.pools
}

func (r Rules) mayMove(page Page, h api.Header) bool {
	if !r.isPool(h.From) {
		return false
	}
	if !r.isPool(h.To) {
		return false
	}
	return h.Amount >= 0 && h.Amount <= page.stakes[h.From]
}

// after is asked of headers that Next has checked alone.
func (r Rules) after(page Page, h api.Header) Page {
	epoch := r.epochOf(h.Slot)
	next := Page{slot: h.Slot, stakes: page.stakes, counts: page.counts, running: page.running}
	next.stakes[h.From] -= h.Amount
	next.stakes[h.To] += h.Amount
	next.counts[h.Pool] = h.Count
	if r.isEarly(h.Slot) {
		next.running = (page.running*257 + h.Proof + 1) % api.Mod
	}
	next.nonce = r.nonceIn(page, epoch)
	next.before = r.stakesIn(page, epoch+1)
	next.longBefore = r.stakesIn(page, epoch)
	return next
}

func (r Rules) epochOf(slot int) int {
	if slot == noSlot {
		return epochOfFirst
	}
	return slot / r.epoch
}

func (r Rules) isEarly(slot int) bool {
	return 3*(slot%r.epoch) < 2*r.epoch
}

// nonceIn tells the nonce of the slots of an epoch behind the page's header:
// the epoch is never below the header's own.
func (r Rules) nonceIn(page Page, epoch int) int {
	if r.epochOf(page.slot) < epoch {
		return page.running
	}
	return page.nonce
}

// stakesIn tells the stakes that count in an epoch, likewise.
func (r Rules) stakesIn(page Page, epoch int) [api.MaxPools]int {
	own := r.epochOf(page.slot)
	if own < epoch-1 {
		return page.stakes
	}
	if own < epoch {
		return page.before
	}
	return page.longBefore
}

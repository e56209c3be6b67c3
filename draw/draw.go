// Package draw: which pools may make a header in a slot, by their stakes.
package draw

import "beacon/api"

// Leads tells whether a proof is low enough for a stake (P3).
func Leads(proof int, stake int, total int, a int, b int) (bool, api.Errno) {
	if proof < 0 || proof >= api.Sides {
		return false, api.ErrArg
	}
	if total < 1 || total > api.MaxPools*api.MaxStake || stake < 0 || stake > total {
		return false, api.ErrArg
	}
	if b < 2 || b > api.MaxPart || a < 1 || a >= b {
		return false, api.ErrArg
	}
	return isBelowEdge(proof, stake, total, a, b), api.OK
}

// isBelowEdge compares whole numbers, so that nothing is rounded:
//
//	proof/Sides < 1 - (1 - a/b)^(stake/total)
//	(1 - a/b)^(stake/total) < (Sides - proof)/Sides
//	(b - a)^stake * Sides^total < b^stake * (Sides - proof)^total
//
// say the same. Both sides of the second are above 0, so that the power total
// keeps their order.
func isBelowEdge(proof int, stake int, total int, a int, b int) bool {
	left := one()
	left.multiplyPower(b-a, stake)
	left.multiplyPower(api.Sides, total)
	right := one()
	right.multiplyPower(b, stake)
	right.multiplyPower(api.Sides-proof, total)
	return left.isLess(right)
}

// Proof tells a pool's proof for a slot (P4).
func Proof(nonce int, slot int, pool int) (int, api.Errno) {
	if nonce < 0 || nonce >= api.Mod {
		return 0, api.ErrArg
	}
	if slot < 0 || slot > api.MaxSlot {
		return 0, api.ErrSlot
	}
	if pool < 0 || pool >= api.MaxPools {
		return 0, api.ErrPool
	}
	t := (nonce*4099 + slot*769 + pool*97 + 12345) % api.Mod
	s := t * t % api.Mod
	return s % api.Sides, api.OK
}

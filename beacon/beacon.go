// Package beacon: a follower of a chain of headers: see DOC.md.
package beacon

import (
	"beacon/api"
	"beacon/draw"
	"beacon/ledger"
	"beacon/texts"
	"beacon/tree"
)

// Leads tells whether a proof is low enough for a stake (P3).
func Leads(proof int, stake int, total int, a int, b int) (bool, api.Errno) {
	return draw.Leads(proof, stake, total, a, b)
}

// Draw tells a pool's proof for a slot (P4).
func Draw(nonce int, slot int, pool int) (int, api.Errno) {
	return draw.Proof(nonce, slot, pool)
}

// Chain is a tree of headers, and the chain that is chosen.
type Chain struct {
	rules  ledger.Rules
	tree   tree.Tree
	points [api.Peers]int
}

// New begins with the first header alone (P5).
func New(p api.Params) (*Chain, api.Errno) {
	rules, page, err := ledger.Begin(p)
	if err != api.OK {
		return nil, err
	}
	headers, err := tree.Begin(p.Depth, p.Room, page)
	if err != api.OK {
		return nil, err
	}
	return &Chain{rules: rules, tree: headers}, api.OK
}

// Turn tells what goes for a pool in a slot behind a header (P6).
func (c *Chain) Turn(id int, slot int, pool int) (api.Turn, api.Errno) {
	node, err := c.tree.Find(id)
	if err != api.OK {
		return api.Turn{}, err
	}
	return c.rules.Turn(node.Page, slot, pool)
}

// Stake tells a pool's stake behind a header (P6).
func (c *Chain) Stake(id int, pool int) (int, api.Errno) {
	node, err := c.tree.Find(id)
	if err != api.OK {
		return 0, err
	}
	return c.rules.Stake(node.Page, pool)
}

// Count tells a pool's count behind a header (P6).
func (c *Chain) Count(id int, pool int) (int, api.Errno) {
	node, err := c.tree.Find(id)
	if err != api.OK {
		return 0, err
	}
	return c.rules.Count(node.Page, pool)
}

// Offer lets a header come (P7).
func (c *Chain) Offer(parent int, h api.Header) (int, api.Errno) {
	id, err := c.take(parent, h)
	if err != api.OK {
		return 0, err
	}
	return id, api.OK
}

// take lets a header come. With ErrTwice it tells the number of the header that
// is there, which Next asks for.
func (c *Chain) take(parent int, h api.Header) (int, api.Errno) {
	node, err := c.tree.Find(parent)
	if err != api.OK {
		return 0, err
	}
	page, err := c.rules.Next(node.Page, h)
	if err != api.OK {
		return 0, err
	}
	return c.tree.Add(node, h, page)
}

// Look tells a header that is kept (P8).
func (c *Chain) Look(id int) (api.Block, api.Errno) {
	return c.tree.Look(id)
}

// Kept tells the headers that are kept (P8).
func (c *Chain) Kept() []int {
	return c.tree.Kept()
}

// Tip tells the last header of the chain that is chosen (P9).
func (c *Chain) Tip() int {
	return c.tree.Tip()
}

// Final tells the last header that is final (P9).
func (c *Chain) Final() int {
	return c.tree.Final()
}

// Path tells all headers of the chain that is chosen (P9).
func (c *Chain) Path() []int {
	return c.tree.Path()
}

// Encode writes a header (P10).
func Encode(h api.Header) (string, api.Errno) {
	return texts.Encode(h)
}

// Decode reads a header (P11).
func Decode(text string) (api.Header, api.Errno) {
	return texts.Decode(text)
}

// Next lets a header come from a peer (P12).
func (c *Chain) Next(peer int, text string) (int, api.Errno) {
	if !isPeer(peer) {
		return 0, api.ErrPeer
	}
	h, err := texts.Decode(text)
	if err != api.OK {
		return 0, err
	}
	point := c.points[peer]
	id, err := c.take(point, h)
	if err != api.OK && err != api.ErrTwice {
		return 0, err
	}
	c.points[peer] = id
	return id, api.OK
}

// Back lets a peer go back to a header (P12).
func (c *Chain) Back(peer int, id int) api.Errno {
	if !isPeer(peer) {
		return api.ErrPeer
	}
	node, err := c.tree.Find(id)
	if err != api.OK {
		return err
	}
	c.points[peer] = node.ID
	return api.OK
}

// Point tells at which header a peer is (P12).
func (c *Chain) Point(peer int) (int, api.Errno) {
	if !isPeer(peer) {
		return 0, api.ErrPeer
	}
	return c.points[peer], api.OK
}

func isPeer(peer int) bool {
	return peer >= 0 && peer < api.Peers
}

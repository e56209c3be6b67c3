package beacon_test

import (
	"slices"
	"testing"

	"beacon/api"
	"beacon/beacon"
)

// model answers as DOC.md says, by walking the whole line each time: it keeps
// every header that was ever accepted, and is slow but plain.
type model struct {
	p       api.Params
	headers []api.Header
	parents []int
	kept    []bool
	tip     int
	final   int
	points  [4]int
}

func newModel(p api.Params) *model {
	p.Stakes = append([]int(nil), p.Stakes...)
	return &model{p: p, headers: []api.Header{{}}, parents: []int{-1}, kept: []bool{true}}
}

// line tells a header's line, from 0 on.
func (m *model) line(id int) []int {
	var list []int
	for ; id >= 0; id = m.parents[id] {
		list = append([]int{id}, list...)
	}
	return list
}

func (m *model) height(id int) int { return len(m.line(id)) - 1 }

func (m *model) isInLine(id int, of int) bool {
	for _, other := range m.line(of) {
		if other == id {
			return true
		}
	}
	return false
}

func (m *model) isPool(pool int) bool { return pool >= 0 && pool < len(m.p.Stakes) }

func (m *model) total() int {
	sum := 0
	for _, stake := range m.p.Stakes {
		sum += stake
	}
	return sum
}

func (m *model) stake(id int, pool int) int {
	stake := m.p.Stakes[pool]
	for _, at := range m.line(id)[1:] {
		if m.headers[at].From == pool {
			stake -= m.headers[at].Amount
		}
		if m.headers[at].To == pool {
			stake += m.headers[at].Amount
		}
	}
	return stake
}

func (m *model) count(id int, pool int) int {
	count := 0
	for _, at := range m.line(id)[1:] {
		if m.headers[at].Pool == pool {
			count = m.headers[at].Count
		}
	}
	return count
}

func (m *model) running(id int) int {
	nonce := m.p.Nonce
	for _, at := range m.line(id)[1:] {
		place := m.headers[at].Slot % m.p.Epoch
		if 3*place < 2*m.p.Epoch {
			nonce = (nonce*257 + m.headers[at].Proof + 1) % 65521
		}
	}
	return nonce
}

// lastBelow tells the last header in a line that is of an epoch below one.
func (m *model) lastBelow(id int, epoch int) int {
	last := 0
	for _, at := range m.line(id)[1:] {
		if m.headers[at].Slot/m.p.Epoch < epoch {
			last = at
		}
	}
	return last
}

var knownEdges = map[[4]int]int{}

func knownEdge(stake int, total int, a int, b int) int {
	key := [4]int{stake, total, a, b}
	edge, known := knownEdges[key]
	if !known {
		edge = exactEdge(stake, total, a, b)
		knownEdges[key] = edge
	}
	return edge
}

// whyNot tells whether a header is kept, and if not, why.
func (m *model) whyNot(id int) api.Errno {
	if id >= 0 && id < len(m.headers) && m.kept[id] {
		return api.OK
	}
	if id >= 0 && id < len(m.headers) && m.isInLine(id, m.final) {
		return api.ErrOld
	}
	return api.ErrNone
}

func (m *model) isBehind(slot int, id int) bool {
	return slot >= 0 && slot <= 10000 && (id == 0 || slot > m.headers[id].Slot)
}

func (m *model) turn(id int, slot int, pool int) (api.Turn, api.Errno) {
	if err := m.whyNot(id); err != api.OK {
		return api.Turn{}, err
	}
	if !m.isBehind(slot, id) {
		return api.Turn{}, api.ErrSlot
	}
	if !m.isPool(pool) {
		return api.Turn{}, api.ErrPool
	}
	turn := api.Turn{Nonce: m.p.Nonce, Stake: m.p.Stakes[pool]}
	if epoch := slot / m.p.Epoch; epoch > 0 {
		turn.Nonce = m.running(m.lastBelow(id, epoch))
		if epoch > 1 {
			turn.Stake = m.stake(m.lastBelow(id, epoch-1), pool)
		}
	}
	turn.Proof = exactDraw(turn.Nonce, slot, pool)
	turn.Leads = turn.Proof < knownEdge(turn.Stake, m.total(), m.p.A, m.p.B)
	return turn, api.OK
}

// refusal tells the first error of P7 that applies.
func (m *model) refusal(parent int, h api.Header) api.Errno {
	turn, err := m.turn(parent, h.Slot, h.Pool)
	if err != api.OK {
		return err
	}
	count := m.count(parent, h.Pool)
	if h.Count != count && h.Count != count+1 {
		return api.ErrCount
	}
	if !m.isPool(h.From) || !m.isPool(h.To) || h.Amount < 0 || h.Amount > m.stake(parent, h.From) {
		return api.ErrMove
	}
	if h.Proof != turn.Proof {
		return api.ErrProof
	}
	if !turn.Leads {
		return api.ErrLeader
	}
	if m.twin(parent, h) >= 0 {
		return api.ErrTwice
	}
	if len(m.keptList()) == m.p.Room {
		return api.ErrFull
	}
	return api.OK
}

func (m *model) offer(parent int, h api.Header) (int, api.Errno) {
	if err := m.refusal(parent, h); err != api.OK {
		return 0, err
	}
	id := len(m.headers)
	m.headers = append(m.headers, h)
	m.parents = append(m.parents, parent)
	m.kept = append(m.kept, true)
	m.tip = -1
	for at := range m.headers {
		if m.kept[at] && (m.tip < 0 || m.height(at) > m.height(m.tip)) {
			m.tip = at
		}
	}
	line := m.line(m.tip)
	m.final = line[max(0, len(line)-1-m.p.Depth)]
	for at := range m.headers {
		m.kept[at] = m.kept[at] && m.isInLine(m.final, at)
	}
	return id, api.OK
}

// twin tells the header that is there already.
func (m *model) twin(parent int, h api.Header) int {
	for id := range m.headers {
		if m.kept[id] && m.parents[id] == parent && m.headers[id] == h {
			return id
		}
	}
	return -1
}

func isPeer(peer int) bool { return peer >= 0 && peer <= 3 }

func (m *model) next(peer int, text string) (int, api.Errno) {
	if !isPeer(peer) {
		return 0, api.ErrPeer
	}
	h, is := plainHeader(text)
	if !is {
		return 0, api.ErrForm
	}
	id, err := m.offer(m.points[peer], h)
	if err == api.ErrTwice {
		id, err = m.twin(m.points[peer], h), api.OK
	}
	if err == api.OK {
		m.points[peer] = id
	}
	return id, err
}

func (m *model) back(peer int, id int) api.Errno {
	if !isPeer(peer) {
		return api.ErrPeer
	}
	err := m.whyNot(id)
	if err == api.OK {
		m.points[peer] = id
	}
	return err
}

// keptList tells the numbers of all that are kept.
func (m *model) keptList() []int {
	var list []int
	for id, kept := range m.kept {
		if kept {
			list = append(list, id)
		}
	}
	return list
}

func (m *model) look(id int) (api.Block, api.Errno) {
	if err := m.whyNot(id); err != api.OK {
		return api.Block{}, err
	}
	if id == 0 {
		return api.Block{}, api.OK
	}
	return api.Block{Header: m.headers[id], Parent: m.parents[id], Height: m.height(id)}, api.OK
}

// pair is a chain and the model beside it: what one answers the other must.
type pair struct {
	t *testing.T
	c *beacon.Chain
	m *model
}

func begin(t *testing.T, p api.Params) *pair {
	t.Helper()
	c, err := beacon.New(p)
	if c == nil || err != api.OK {
		t.Fatalf("New(%+v) = %v, %d", p, c, err)
	}
	return &pair{t, c, newModel(p)}
}

func (x *pair) offer(parent int, h api.Header) (int, api.Errno) {
	x.t.Helper()
	id, err := x.c.Offer(parent, h)
	wantID, wantErr := x.m.offer(parent, h)
	if id != wantID || err != wantErr {
		x.t.Fatalf("of %+v: Offer(%d, %+v) = %d, %d, want %d, %d", x.m.p, parent, h, id, err, wantID, wantErr)
	}
	x.checkStand()
	return id, err
}

func (x *pair) next(peer int, text string) (int, api.Errno) {
	x.t.Helper()
	id, err := x.c.Next(peer, text)
	wantID, wantErr := x.m.next(peer, text)
	if id != wantID || err != wantErr {
		x.t.Fatalf("of %+v: Next(%d, %.99q) = %d, %d, want %d, %d", x.m.p, peer, text, id, err, wantID, wantErr)
	}
	x.checkStand()
	return id, err
}

func (x *pair) back(peer int, id int) api.Errno {
	x.t.Helper()
	err := x.c.Back(peer, id)
	if wantErr := x.m.back(peer, id); err != wantErr {
		x.t.Fatalf("of %+v: Back(%d, %d): %d, want %d", x.m.p, peer, id, err, wantErr)
	}
	x.checkStand()
	return err
}

// checkStand asks for the tip, for what is final and kept, for the path, and
// for the peers' points.
func (x *pair) checkStand() {
	x.t.Helper()
	checkStandIs(x.t, x.c, x.m.tip, x.m.final, x.m.keptList(), x.m.line(x.m.tip))
	checkPointsAre(x.t, x.c, x.m.points)
}

// checkPointsAre asks for each peer's point, and for those of the numbers
// around, which are no peers'.
func checkPointsAre(t *testing.T, c *beacon.Chain, points [4]int) {
	t.Helper()
	for peer := -1; peer <= len(points); peer++ {
		want, wantErr := 0, api.ErrPeer
		if isPeer(peer) {
			want, wantErr = points[peer], api.OK
		}
		if point, err := c.Point(peer); point != want || err != wantErr {
			t.Fatalf("Point(%d) = %d, %d, want %d, %d", peer, point, err, want, wantErr)
		}
	}
}

func checkStandIs(t *testing.T, c *beacon.Chain, tip int, final int, kept []int, path []int) {
	t.Helper()
	if c.Tip() != tip || c.Final() != final {
		t.Fatalf("the tip is %d, final is %d, want %d, %d", c.Tip(), c.Final(), tip, final)
	}
	if list := c.Kept(); !slices.Equal(list, kept) {
		t.Fatalf("kept are %v, want %v", list, kept)
	}
	if list := c.Path(); !slices.Equal(list, path) {
		t.Fatalf("the path is %v, want %v", list, path)
	}
}

func (x *pair) checkLook(id int) {
	x.t.Helper()
	want, wantErr := x.m.look(id)
	checkLookIs(x.t, x.c, id, want, wantErr)
}

func checkLookIs(t *testing.T, c *beacon.Chain, id int, want api.Block, wantErr api.Errno) {
	t.Helper()
	block, err := c.Look(id)
	if block != want || err != wantErr {
		t.Fatalf("Look(%d) = %+v, %d, want %+v, %d", id, block, err, want, wantErr)
	}
}

// accept offers a header that must be accepted.
func (x *pair) accept(parent int, h api.Header) int {
	x.t.Helper()
	id, err := x.offer(parent, h)
	if err != api.OK {
		x.t.Fatalf("of %+v: Offer(%d, %+v) = %d, %d", x.m.p, parent, h, id, err)
	}
	return id
}

// refuse offers a header that must be refused, for this reason.
func (x *pair) refuse(parent int, h api.Header, want api.Errno) {
	x.t.Helper()
	_, err := x.offer(parent, h)
	if err != want {
		x.t.Errorf("of %+v: Offer(%d, %+v): %d, want %d", x.m.p, parent, h, err, want)
	}
}

func (x *pair) checkPool(id int, pool int) {
	x.t.Helper()
	wantStake, wantCount, wantErr := 0, 0, x.m.whyNot(id)
	if wantErr == api.OK && !x.m.isPool(pool) {
		wantErr = api.ErrPool
	}
	if wantErr == api.OK {
		wantStake, wantCount = x.m.stake(id, pool), x.m.count(id, pool)
	}
	if stake, err := x.c.Stake(id, pool); stake != wantStake || err != wantErr {
		x.t.Fatalf("of %+v: Stake(%d, %d) = %d, %d, want %d, %d", x.m.p, id, pool, stake, err, wantStake, wantErr)
	}
	if count, err := x.c.Count(id, pool); count != wantCount || err != wantErr {
		x.t.Fatalf("of %+v: Count(%d, %d) = %d, %d, want %d, %d", x.m.p, id, pool, count, err, wantCount, wantErr)
	}
}

func (x *pair) checkTurn(id int, slot int, pool int) {
	x.t.Helper()
	turn, err := x.c.Turn(id, slot, pool)
	want, wantErr := x.m.turn(id, slot, pool)
	if turn != want || err != wantErr {
		x.t.Fatalf("of %+v: Turn(%d, %d, %d) = %+v, %d, want %+v, %d", x.m.p, id, slot, pool, turn, err, want, wantErr)
	}
}

// checkHeader asks for all that goes with a header, in slots at the edges of
// the epochs behind it.
func (x *pair) checkHeader(id int) {
	x.t.Helper()
	slot := -1
	if id > 0 && id < len(x.m.headers) {
		slot = x.m.headers[id].Slot
	}
	next := (slot/x.m.p.Epoch + 1) * x.m.p.Epoch
	for pool := -1; pool <= len(x.m.p.Stakes); pool++ {
		x.checkPool(id, pool)
		for _, at := range []int{slot, slot + 1, next - 1, next, next + x.m.p.Epoch - 1, next + x.m.p.Epoch, next + 2*x.m.p.Epoch, 10000, 10001} {
			x.checkTurn(id, at, pool)
		}
	}
}

// checkAll asks of every number that was given, and of those around.
func (x *pair) checkAll() {
	x.t.Helper()
	for id := -2; id <= len(x.m.headers)+1; id++ {
		x.checkHeader(id)
		x.checkLook(id)
	}
	x.checkStand()
}

// header makes one that may come behind a parent: of the first slot from one
// on in which a pool leads.
func (x *pair) header(parent int, slot int) (api.Header, bool) {
	for ; slot <= 10000; slot++ {
		for pool := range x.m.p.Stakes {
			turn, err := x.m.turn(parent, slot, pool)
			if err == api.OK && turn.Leads {
				return api.Header{Slot: slot, Pool: pool, Proof: turn.Proof, Count: x.m.count(parent, pool)}, true
			}
		}
	}
	return api.Header{}, false
}

func (x *pair) slotBehind(id int) int {
	if id == 0 {
		return 0
	}
	return x.m.headers[id].Slot + 1
}

// grow accepts a header behind a parent, in the first slot there is.
func (x *pair) grow(parent int) int {
	x.t.Helper()
	h, found := x.header(parent, x.slotBehind(parent))
	if !found {
		x.t.Fatalf("of %+v: no header behind %d", x.m.p, parent)
	}
	return x.accept(parent, h)
}

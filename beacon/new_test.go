package beacon_test

import (
	"math"
	"testing"

	"beacon/api"
	"beacon/beacon"
)

func exampleParams() api.Params {
	return api.Params{Depth: 2, Epoch: 5, Room: 10, A: 19, B: 20, Nonce: 0, Stakes: []int{3, 1}}
}

func checkNew(t *testing.T, p api.Params, want api.Errno) {
	t.Helper()
	c, err := beacon.New(p)
	if err != want || (c == nil) != (want != api.OK) {
		t.Errorf("New(%+v) = %v, %d, want %d", p, c, err, want)
	}
}

// numberField is one of the numbers in api.Params, and what it may be beside
// the other numbers of exampleParams.
type numberField struct {
	name        string
	least, most int
	set         func(p *api.Params, n int)
}

var numberFields = []numberField{
	{"Depth", 1, 8, func(p *api.Params, n int) { p.Depth = n }},
	{"Epoch", 1, 50, func(p *api.Params, n int) { p.Epoch = n }},
	{"Room", 2, 40, func(p *api.Params, n int) { p.Room = n }},
	{"A", 1, 19, func(p *api.Params, n int) { p.A = n }},
	{"B", 20, 20, func(p *api.Params, n int) { p.B = n }},
	{"B beside A 1", 2, 20, func(p *api.Params, n int) { p.A, p.B = 1, n }},
	{"Nonce", 0, 65520, func(p *api.Params, n int) { p.Nonce = n }},
	{"a stake", 0, 40, func(p *api.Params, n int) { p.Stakes = []int{n, 1} }},
	{"the last of six stakes", 0, 40, func(p *api.Params, n int) { p.Stakes = []int{0, 0, 1, 0, 0, n} }},
	{"the only stake", 1, 40, func(p *api.Params, n int) { p.Stakes = []int{n} }},
}

func TestP5EdgesOfRanges(t *testing.T) {
	for _, field := range numberFields {
		for _, n := range []int{
			field.least - 2, field.least - 1, field.least, field.least + 1, field.most - 1, field.most, field.most + 1, field.most + 2,
			math.MinInt, math.MinInt + 1, -1 << 32, 1 << 32, math.MaxInt - 1, math.MaxInt,
		} {
			p := exampleParams()
			field.set(&p, n)
			want := api.OK
			if n < field.least || n > field.most {
				want = api.ErrArg
			}
			checkNew(t, p, want)
		}
	}
}

func TestP5Fractions(t *testing.T) {
	for a := -2; a <= 23; a++ {
		for b := -2; b <= 23; b++ {
			p := exampleParams()
			p.A, p.B = a, b
			want := api.ErrArg
			if b >= 2 && b <= 20 && a >= 1 && a <= b-1 {
				want = api.OK
			}
			checkNew(t, p, want)
		}
	}
}

func TestP5Stakes(t *testing.T) {
	for _, c := range []struct {
		stakes []int
		want   api.Errno
	}{
		{nil, api.ErrArg},
		{[]int{}, api.ErrArg},
		{make([]int, 0, 9), api.ErrArg},
		{[]int{0}, api.ErrArg},
		{[]int{0, 0, 0, 0, 0, 0}, api.ErrArg},
		{[]int{1}, api.OK},
		{[]int{0, 0, 0, 0, 0, 1}, api.OK},
		{[]int{40, 40, 40, 40, 40, 40}, api.OK},
		{[]int{1, 1, 1, 1, 1, 1, 1}, api.ErrArg},
		{[]int{1, 1, 1, 1, 1, 1, 0}, api.ErrArg},
		{[]int{0, 0, 0, 0, 0, 0, 0}, api.ErrArg},
		{make([]int, 5000), api.ErrArg},
		{[]int{1, -1}, api.ErrArg},
		{[]int{-1, 2}, api.ErrArg},
		{[]int{41, -1}, api.ErrArg},
		{[]int{1, 41}, api.ErrArg},
		{[]int{math.MaxInt, 1}, api.ErrArg},
		{[]int{math.MinInt, math.MinInt}, api.ErrArg},
		{[]int{math.MaxInt, math.MaxInt, 3}, api.ErrArg},
	} {
		p := exampleParams()
		p.Stakes = c.stakes
		checkNew(t, p, c.want)
	}
}

func TestP5SeveralErrors(t *testing.T) {
	checkNew(t, api.Params{}, api.ErrArg)
	checkNew(t, api.Params{Depth: 9, Epoch: 51, Room: 41, A: 21, B: 21, Nonce: 65521, Stakes: []int{41}}, api.ErrArg)
}

// A chain that was just begun has the first header, and no other.
func TestP5FirstHeader(t *testing.T) {
	for _, p := range []api.Params{
		exampleParams(),
		{Depth: 1, Epoch: 1, Room: 2, A: 1, B: 2, Nonce: 65520, Stakes: []int{1}},
		{Depth: 8, Epoch: 50, Room: 40, A: 19, B: 20, Nonce: 1, Stakes: []int{40, 40, 40, 40, 40, 40}},
		{Depth: 8, Epoch: 50, Room: 40, A: 1, B: 20, Nonce: 7, Stakes: []int{0, 0, 0, 0, 0, 1}},
	} {
		x := begin(t, p)
		x.checkAll()
		for pool, want := range p.Stakes {
			stake, err := x.c.Stake(0, pool)
			count, countErr := x.c.Count(0, pool)
			if stake != want || err != api.OK || count != 0 || countErr != api.OK {
				t.Errorf("of %+v: pool %d: %d, %d, %d, %d", p, pool, stake, err, count, countErr)
			}
		}
		if id := x.grow(0); id != 1 {
			t.Errorf("of %+v: the first header that comes is %d", p, id)
		}
	}
}

// What stands behind the list that is handed in stays as it is, and what the
// caller does with the list afterwards changes nothing.
func TestP2StakesAreNotKept(t *testing.T) {
	behind := []int{3, 1, 71, 72, 73, 74, 75}
	p := exampleParams()
	p.Stakes = behind[:2]
	x := begin(t, p)
	first := x.accept(0, firstHeader)
	second := x.accept(first, secondHeader)
	for i, want := range []int{3, 1, 71, 72, 73, 74, 75} {
		if behind[i] != want {
			t.Errorf("number %d of the list is %d, was %d", i, behind[i], want)
		}
	}
	for i := range behind {
		behind[i] = 40 - i
	}
	x.checkAll()
	x.grow(second)
	x.checkAll()
	for i := range behind {
		if behind[i] != 40-i {
			t.Errorf("number %d of the list is %d, was %d", i, behind[i], 40-i)
		}
	}
}

func TestP2ListOfARefusedNew(t *testing.T) {
	behind := []int{3, 1, 41, 5}
	p := exampleParams()
	p.Stakes = behind[:3]
	checkNew(t, p, api.ErrArg)
	for i, want := range []int{3, 1, 41, 5} {
		if behind[i] != want {
			t.Errorf("number %d of the list is %d, was %d", i, behind[i], want)
		}
	}
}

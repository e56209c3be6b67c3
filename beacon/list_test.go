package beacon_test

import (
	"math/rand"
	"slices"
	"testing"

	"beacon/beacon"
)

// handed is a list that came out, and what stood in it and in its spare room.
type handed struct {
	list []int
	was  []int
}

func whole(list []int) []int { return list[:cap(list)] }

func hand(list []int) handed {
	return handed{list: list, was: slices.Clone(whole(list))}
}

// scribble writes into a list and into its spare room.
func (h *handed) scribble(n int) {
	for i := range h.was {
		whole(h.list)[i] = n
		h.was[i] = n
	}
}

func checkHanded(t *testing.T, lists []handed) {
	t.Helper()
	for i, h := range lists {
		if !slices.Equal(whole(h.list), h.was) {
			t.Fatalf("list %d is %v, was %v", i, whole(h.list), h.was)
		}
	}
}

func bothLists(c *beacon.Chain) []handed {
	return []handed{hand(c.Kept()), hand(c.Path()), hand(c.Kept()), hand(c.Path())}
}

// Lists come out of several chains at every step; half of them are written
// into, and behind their ends: no chain and no other list changes by that, and
// none changes as the chains go on.
func TestP2ListsThatComeOutAreFresh(t *testing.T) {
	r := rand.New(rand.NewSource(13))
	for range 8 {
		p := drawnParams(r)
		pairs := []*pair{begin(t, p), begin(t, p), drawnPair(t, r)}
		var lists []handed
		for step := range 60 {
			x := pairs[r.Intn(len(pairs))]
			fresh := bothLists(x.c)
			fresh[0].scribble(-step)
			fresh[1].scribble(1000 + step)
			lists = append(lists, fresh...)
			checkHanded(t, lists)
			for _, other := range pairs {
				other.checkStand()
			}
			x.offerDrawn(r)
			checkHanded(t, lists)
		}
		for _, x := range pairs {
			x.checkAll()
		}
		checkHanded(t, lists)
	}
}

// A caller who appends to a list has what it appended, whatever comes next.
func TestP2ListsMayBeAppendedTo(t *testing.T) {
	x := grownExample(t)
	kept := append(x.c.Kept(), 71, 72)
	path := append(x.c.Path(), 81, 82)
	otherKept := append(x.c.Kept(), 73)
	otherPath := append(x.c.Path(), 83)
	x.grow(x.grow(4))
	x.checkAll()
	for _, c := range []struct{ list, want []int }{
		{kept, []int{1, 2, 4, 71, 72}},
		{path, []int{0, 1, 2, 4, 81, 82}},
		{otherKept, []int{1, 2, 4, 73}},
		{otherPath, []int{0, 1, 2, 4, 83}},
	} {
		if !slices.Equal(c.list, c.want) {
			t.Errorf("the list is %v, want %v", c.list, c.want)
		}
	}
}

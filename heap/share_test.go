package heap

import (
	"reflect"
	"slices"
	"sync"
	"testing"

	"smithy/api"
)

// listsOf are all lists of values of a graph.
func listsOf(g api.Graph) [][]api.Ref {
	out := [][]api.Ref{g.Roots}
	for _, t := range g.Things {
		out = append(out, t.Refs)
	}
	return out
}

// overwrite writes into all of a graph's memory, the spare room of its lists, too.
func overwrite(g api.Graph) {
	for _, l := range listsOf(g) {
		l = l[:cap(l)]
		for i := range l {
			l[i] = api.Ref{Kind: 77, N: 77}
		}
	}
	l := g.Things[:cap(g.Things)]
	for i := range l {
		l[i] = api.Thing{Kind: 77}
	}
}

// apart holds that no two lists of an answer have memory in common.
func apart(t *testing.T, what string, g api.Graph) {
	t.Helper()
	lists := listsOf(g)
	for i, l := range lists {
		before := copied(g)
		spare := slices.Clone(l[:cap(l)])
		for j := range l[:cap(l)] {
			l[:cap(l)][j] = api.Ref{Kind: 77, N: 77}
		}
		for j, other := range listsOf(before) {
			if i != j && !slices.Equal(other, lists[j]) {
				t.Errorf("%s: lists %d and %d have memory in common", what, i, j)
			}
		}
		copy(l[:cap(l)], spare)
	}
}

// shared is a graph whose things have memory in common.
func shared() api.Graph {
	l := refs("@1 @0 5 @2 @4")
	g := graph("", "block 3", "text abc", "vector", "text never reached", "closure 6")
	g.Roots = l[1:4]
	g.Things[0].Refs, g.Things[2].Refs, g.Things[4].Refs = l, l[:3], l[2:]
	return g
}

// R3: what is handed in stays as it was, what is answered has nothing in common with it.
func TestCanonShares(t *testing.T) {
	g := shared()
	before := copied(g)
	c := canon(t, "shared", g)
	equals(t, "what is handed in", g, before)
	wanted := copied(c)
	apart(t, "Canon", c)
	overwrite(g)
	equals(t, "behind writing what was handed in", c, wanted)
	g = shared()
	c = canon(t, "shared", g)
	overwrite(c)
	equals(t, "behind writing what was answered", g, before)
	equals(t, "a second time", canon(t, "shared", g), wanted)
	h := canon(t, "shared", g)
	if !Same(g, h) || !Same(h, g) || Check(g) != api.OK || Size(g.Things[0]) != 48 || Header(g.Things[0]) == 0 {
		t.Error("not the same")
	}
	equals(t, "what is handed in to Same, Check, Size and Header", g, before)
	equals(t, "what is handed in to Same", h, wanted)
}

// R3: likewise of Lay.
func TestLayShares(t *testing.T) {
	g := shared()
	before := copied(g)
	b, roots, e := Lay(g, 64)
	if e != api.OK {
		t.Fatal(e)
	}
	equals(t, "what is handed in", g, before)
	c, other := slices.Clone(b), slices.Clone(roots)
	overwrite(g)
	if !slices.Equal(b, c) || !slices.Equal(roots, other) {
		t.Error("what is answered is changed with what was handed in")
	}
	g = shared()
	clear(b[:cap(b)])
	clear(roots[:cap(roots)])
	equals(t, "behind writing what was answered", g, before)
	if b, roots, e = Lay(g, 64); e != api.OK || !slices.Equal(b, c) || !slices.Equal(roots, other) {
		t.Error("another answer a second time")
	}
}

// R3: likewise of Read.
func TestReadShares(t *testing.T) {
	b, roots, e := Lay(shared(), 64)
	if e != api.OK {
		t.Fatal(e)
	}
	c, other := slices.Clone(b), slices.Clone(roots)
	g, e := Read(b, 64, roots)
	if e != api.OK || !slices.Equal(b, c) || !slices.Equal(roots, other) {
		t.Error(e, "what is handed in is changed")
	}
	wanted := copied(g)
	apart(t, "Read", g)
	clear(b)
	clear(roots)
	equals(t, "behind writing what was handed in", g, wanted)
	overwrite(g)
	if h, e := Read(c, 64, other); e != api.OK || !reflect.DeepEqual(h, wanted) {
		t.Error("another answer a second time", e)
	}
}

// R4: calls from several hands at the same time.
func TestHands(t *testing.T) {
	var all sync.WaitGroup
	for hand := range uint64(8) {
		all.Go(func() {
			for seed := range uint64(200) {
				g := newMaker(hand*1000 + seed).graph()
				c, e := Canon(g)
				b, roots, f := Lay(g, 8*seed)
				back, h := Read(b, 8*seed, roots)
				if e != api.OK || f != api.OK || h != api.OK || !reflect.DeepEqual(back, c) || !Same(g, c) || !reflect.DeepEqual(c, slowCanon(g)) {
					t.Error(hand, seed, e, f, h)
				}
			}
		})
	}
	all.Wait()
}

package heap

import (
	"fmt"
	"testing"

	"smithy/api"
)

// canon is Canon of a graph that may be.
func canon(t *testing.T, what string, g api.Graph) api.Graph {
	t.Helper()
	c, e := Canon(g)
	if e != api.OK {
		t.Fatalf("%s: %v", what, e)
	}
	return c
}

// P14.2: what is reached, and how it is numbered.
func TestCanon(t *testing.T) {
	for _, x := range []struct {
		what      string
		g, wanted api.Graph
	}{
		{"numbers alone", graph("5 -6 7", "text a"), graph("5 -6 7")},
		{"no root", graph("", "text a", "cell @0"), graph("")},
		{"one that isn't reached", graph("@1", "text a", "text b"), graph("@0", "text b")},
		{"one that isn't reached holds one that is", graph("@0", "text a", "cell @0"), graph("@0", "text a")},
		{"roots in their order", graph("@2 @0 @1", "text a", "text b", "text c"), graph("@0 @1 @2", "text c", "text a", "text b")},
		{"roots that are the same", graph("@1 @1 4 @0 @1", "text a", "text b"), graph("@0 @0 4 @1 @0", "text b", "text a")},
		{"its own", graph("@1", "text a", "cell @1"), graph("@0", "cell @0")},
		{"its own, twice", graph("@0", "block 3 @0 1 @0"), graph("@0", "block 3 @0 1 @0")},
		{"a ring", graph("@2", "cell @1", "cell @2", "cell @0"), graph("@0", "cell @1", "cell @2", "cell @0")},
		{"a ring that isn't reached", graph("@2", "cell @1", "cell @0", "text a"), graph("@0", "text a")},
		{"shared", graph("@0", "vector @1 @2 @1", "cell @3", "cell @3", "text a"), graph("@0", "vector @1 @2 @1", "cell @3", "cell @3", "text a")},
		{"shared, turned about", graph("@3", "text a", "cell @0", "cell @0", "vector @2 @1 @2"), graph("@0", "vector @1 @2 @1", "cell @3", "cell @3", "text a")},
		{"by breadth, not by depth", graph("@0", "block 0 @1 @2", "block 1 @3", "block 2 @4", "block 3", "block 4"), graph("@0", "block 0 @1 @2", "block 1 @3", "block 2 @4", "block 3", "block 4")},
		{"by breadth, turned about", graph("@0 @1", "block 0 @4", "block 1 @3", "block 2", "block 3 @2", "block 4"), graph("@0 @1", "block 0 @2", "block 1 @3", "block 4", "block 3 @4", "block 2")},
		{"all of a root's ahead of the next one's", graph("@4 @2", "text a", "text b", "cell @0", "text d", "vector @1 @3"), graph("@0 @1", "vector @2 @3", "cell @4", "text b", "text d", "text a")},
		{"a root that another one holds", graph("@0 @1", "cell @1", "text a"), graph("@0 @1", "cell @1", "text a")},
		{"closures", graph("@1", "text a", "closure 9 @2 8 @0", "closure 4194303 @1"), graph("@0", "closure 9 @1 8 @2", "closure 4194303 @0", "text a")},
		{"equal ones are two", graph("@1 @0 @2", "text a", "text a", "text a"), graph("@0 @1 @2", "text a", "text a", "text a")},
	} {
		c := canon(t, x.what, x.g)
		equals(t, x.what, c, x.wanted)
		equals(t, x.what+", again", canon(t, x.what, c), x.wanted)
		equals(t, x.what+", slowly", slowCanon(x.g), x.wanted)
		if !Same(x.g, x.wanted) || !Same(x.wanted, x.g) {
			t.Errorf("%s: not the same", x.what)
		}
	}
}

// P14.2: each field of what is reached stays as it was.
func TestCanonKeeps(t *testing.T) {
	for kind, x := range plain() {
		if kind == 0 {
			continue
		}
		g := api.Graph{Things: []api.Thing{made("text a"), x}, Roots: refs("@1")}
		equals(t, fmt.Sprint("kind ", kind), canon(t, "", g), api.Graph{Things: []api.Thing{x}, Roots: refs("@0")})
	}
	for _, l := range []string{"-4611686018427387904", "4611686018427387903", "0", "-1"} {
		equals(t, l, canon(t, l, graph(l+" @0", "cell "+l)), graph(l+" @0", "cell "+l))
	}
}

// P14.2: graphs that are no more the same, each for one difference.
func TestNotSame(t *testing.T) {
	for _, x := range []struct {
		what string
		g, h api.Graph
	}{
		{"another small root", graph("5"), graph("6")},
		{"another sign", graph("5"), graph("-5")},
		{"a root more", graph("5"), graph("5 5")},
		{"no root", graph("@0", "text a"), graph("", "text a")},
		{"roots the other way round", graph("5 6"), graph("6 5")},
		{"things the other way round", graph("@0 @1", "text a", "text b"), graph("@1 @0", "text a", "text b")},
		{"a number and a thing", graph("0", "text a"), graph("@0", "text a")},
		{"Kind", graph("@0", "text a"), graph("@0", "bytes a")},
		{"Kind of Refs", graph("@0", "block 0 5"), graph("@0", "vector 5")},
		{"Kind, empty", graph("@0", "text"), graph("@0", "vector")},
		{"Tag", graph("@0", "block 1 5"), graph("@0", "block 2 5")},
		{"Tag of a closure", graph("@0", "closure 1 5"), graph("@0", "closure 2 5")},
		{"Bytes", graph("@0", "text a"), graph("@0", "text b")},
		{"more Bytes", graph("@0", "text a"), graph("@0", "text a\x00")},
		{"Refs", graph("@0", "cell 1"), graph("@0", "cell 2")},
		{"more Refs", graph("@0", "vector 1"), graph("@0", "vector 1 1")},
		{"order of Refs", graph("@0", "vector 1 2"), graph("@0", "vector 2 1")},
		{"a number in Refs", graph("@0", "cell 0"), graph("@0", "cell @0")},
		{"shared or not", graph("@0 @0", "text a"), graph("@0 @1", "text a", "text a")},
		{"shared below or not", graph("@0", "vector @1 @1", "text a"), graph("@0", "vector @1 @2", "text a", "text a")},
		{"a ring of one and of two", graph("@0", "cell @0"), graph("@0", "cell @1", "cell @0")},
		{"a ring that comes back elsewhere", graph("@0", "cell @1", "cell @0"), graph("@0", "cell @1", "cell @1")},
		{"the last one", graph("@0", "cell @1", "cell @2", "text a"), graph("@0", "cell @1", "cell @2", "text b")},
	} {
		if Same(x.g, x.h) || Same(x.h, x.g) {
			t.Errorf("%s: the same", x.what)
		}
		if !Same(x.g, x.g) || !Same(x.h, x.h) {
			t.Errorf("%s: not the same as itself", x.what)
		}
	}
	below := func(tag int) api.Graph {
		return api.Graph{Things: []api.Thing{{Kind: api.HeapBig, Tag: tag, Bytes: big}}, Roots: refs("@0")}
	}
	if Same(below(0), below(1)) {
		t.Error("the sign of a big: the same")
	}
}

// P14.2: both must be graphs that may be, also where what is reached is the same.
func TestSameOfNone(t *testing.T) {
	g, h := graph("@0", "text a"), graph("@0", "text a", "cell")
	if Same(g, h) || Same(h, g) || Same(h, h) {
		t.Error("one that may not be is the same as another one")
	}
	if !Same(g, graph("@1", "cell 1", "text a")) {
		t.Error("not the same")
	}
}

// P14.2 to P14.4: no stack's depth bounds how deep things hang together.
func TestLong(t *testing.T) {
	const n = 1 << 18
	var chain, ring, back api.Graph
	for i := range int64(n) {
		next := thing(i + 1)
		if i == n-1 {
			next = small(0)
		}
		chain.Things = append(chain.Things, api.Thing{Kind: api.HeapCell, Refs: []api.Ref{next}})
		back.Things = append(back.Things, api.Thing{Kind: api.HeapBlock, Tag: int(i % 65536), Refs: []api.Ref{small(i), thing(max(0, i-1))}})
		ring.Things = append(ring.Things, api.Thing{Kind: api.HeapCell, Refs: []api.Ref{thing((i + 5) % n)}})
	}
	chain.Roots, back.Roots, ring.Roots = refs("@0"), []api.Ref{thing(n - 1)}, refs("@7")
	broad := api.Graph{Things: []api.Thing{{Kind: api.HeapVector}}, Roots: refs("@0")}
	for i := range int64(n) {
		broad.Things[0].Refs = append(broad.Things[0].Refs, thing(n-i))
		broad.Things = append(broad.Things, api.Thing{Kind: api.HeapClosure, Tag: int(i), Refs: refs("@0")})
	}
	for i, g := range []api.Graph{chain, back, ring, broad} {
		c := canon(t, "long", g)
		if len(c.Things) != len(g.Things) {
			t.Error(i, len(c.Things))
		}
		b, roots, e := Lay(g, 1<<40)
		if e != api.OK {
			t.Error(i, e)
		}
		again, e := Read(b, 1<<40, roots)
		if e != api.OK || !equal(c, again) || !Same(g, again) {
			t.Error(i, e)
		}
	}
	if c := canon(t, "back", back); c.Things[0].Refs[0].N != n-1 || c.Things[n-1].Refs[1].N != n-1 {
		t.Error("back")
	}
	if c := canon(t, "broad", broad); c.Things[1].Tag != n-1 || c.Things[n].Tag != 0 {
		t.Error("broad")
	}
}

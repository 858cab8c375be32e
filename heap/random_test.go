package heap

import (
	"bytes"
	"math"
	"math/rand/v2"
	"reflect"
	"slices"
	"testing"

	"smithy/api"
)

// maker makes graphs at random.
type maker struct{ *rand.Rand }

func newMaker(seed uint64) maker { return maker{rand.New(rand.NewPCG(seed, 14))} }

// one is one of these.
func one[T any](m maker, l ...T) T { return l[m.IntN(len(l))] }

func (m maker) bytes(n int) string {
	b := make([]byte, n)
	for i := range b {
		b[i] = byte(one(m, 0, 0, 1, 255, m.IntN(256)))
	}
	return string(b)
}

// big are limbs that may be those of a Big, mostly close to those of small numbers.
func (m maker) big() string {
	if m.IntN(2) == 0 {
		return limbs(uint32(1+m.IntN(2)), 1<<30)
	}
	return m.bytes(4+4*m.IntN(4)) + string([]byte{0, byte(m.IntN(3)), 0, byte(64 + m.IntN(192))})
}

func (m maker) value(things int) api.Ref {
	if things > 0 && m.IntN(3) > 0 {
		return thing(int64(m.IntN(things)))
	}
	return small(one(m, 0, 1, -1, 1<<62-1, -1<<62, int64(m.Uint64())>>2))
}

func (m maker) values(n, things int) []api.Ref {
	var out []api.Ref
	for range n {
		out = append(out, m.value(things))
	}
	return out
}

func (m maker) thing(things int) api.Thing {
	kind := 1 + m.IntN(8)
	switch kind {
	case api.HeapBlock:
		return api.Thing{Kind: kind, Tag: one(m, 0, 1, 65535, m.IntN(65536)), Refs: m.values(m.IntN(5), things)}
	case api.HeapText, api.HeapBytes:
		return api.Thing{Kind: kind, Bytes: m.bytes(m.IntN(20))}
	case api.HeapBig:
		return api.Thing{Kind: kind, Tag: m.IntN(2), Bytes: m.big()}
	case api.HeapReal:
		return api.Thing{Kind: kind, Bytes: m.bytes(8)}
	case api.HeapCell:
		return api.Thing{Kind: kind, Refs: m.values(1, things)}
	case api.HeapVector:
		return api.Thing{Kind: kind, Refs: m.values(m.IntN(8), things)}
	}
	return api.Thing{Kind: kind, Tag: one(m, 0, 1, 1<<22-1, m.IntN(1<<22)), Refs: m.values(m.IntN(4), things)}
}

func (m maker) graph() api.Graph {
	n := m.IntN(one(m, 2, 6, 30))
	g := api.Graph{Roots: m.values(m.IntN(5), n)}
	for range n {
		g.Things = append(g.Things, m.thing(n))
	}
	return g
}

// place is an address where so many bytes may lie.
func (m maker) place(n int) uint64 {
	last := (1<<63 - uint64(n)) &^ 7
	return one(m, 0, 8, 4096, api.HeapBase, last, m.Uint64N(last)&^7)
}

// turned is g with its things in another order.
func (m maker) turned(g api.Graph) api.Graph {
	to := m.Perm(len(g.Things))
	rename := func(l []api.Ref) []api.Ref {
		l = slices.Clone(l)
		for i, v := range l {
			if v.Kind == api.RefThing {
				l[i].N = int64(to[v.N])
			}
		}
		return l
	}
	out := api.Graph{Things: make([]api.Thing, len(g.Things)), Roots: rename(g.Roots)}
	for i, t := range g.Things {
		t.Refs = rename(t.Refs)
		out.Things[to[i]] = t
	}
	return out
}

// spoil changes one thing about a graph.
func (m maker) spoil(g api.Graph) api.Graph {
	g = copied(g)
	lists := []*[]api.Ref{&g.Roots}
	for i := range g.Things {
		lists = append(lists, &g.Things[i].Refs)
	}
	l := one(m, lists...)
	switch kind := m.IntN(6); {
	case kind == 0:
		*l = append(*l, m.value(len(g.Things)+m.IntN(2)))
	case kind == 1 && len(*l) > 0:
		*l = (*l)[1:]
	case kind == 2 && len(*l) > 0:
		(*l)[m.IntN(len(*l))] = api.Ref{Kind: one(m, 0, 1, 2, 3), N: one(m, 0, -1, int64(len(g.Things)), 1<<62, math.MinInt64)}
	case len(g.Things) > 0:
		t := &g.Things[m.IntN(len(g.Things))]
		switch kind {
		case 3:
			t.Kind = m.IntN(10)
		case 4:
			t.Tag = one(m, 0, 1, -1, 2, t.Tag+1, 65536, 1<<22)
		default:
			t.Bytes = m.bytes(one(m, 0, 1, 4, 8, 12))
		}
	}
	return g
}

// P14.2, P14.3, P14.5: graphs at random.
func TestRandomGraphs(t *testing.T) {
	for seed := range uint64(20000) {
		m := newMaker(seed)
		g := m.graph()
		c, e := Canon(g)
		if want := slowCanon(g); e != api.OK || !reflect.DeepEqual(c, want) || Check(g) != api.OK {
			t.Fatalf("%d: %v: %v\n%v, not\n%v", seed, g, e, c, want)
		}
		if again, e := Canon(c); e != api.OK || !reflect.DeepEqual(again, c) {
			t.Fatalf("%d: Canon of Canon is %v, not %v", seed, again, c)
		}
		all := 0
		for _, x := range g.Things {
			size := Size(x)
			if size < 8 || size%8 != 0 {
				t.Fatal(seed, x, size)
			}
			all += int(size)
		}
		at := m.place(all)
		b, roots, e := Lay(g, at)
		words, wanted := slowLay(g, at)
		if e != api.OK || !bytes.Equal(b, inBytes(words...)) || !slices.Equal(roots, wanted) || len(b) != all {
			t.Fatalf("%d: %v at %x: %v\n%x, not\n%x\n%x, not %x", seed, g, at, e, b, inBytes(words...), roots, wanted)
		}
		back, e := Read(b, at, roots)
		if e != api.OK || !reflect.DeepEqual(back, c) {
			t.Fatalf("%d: %v is read as %v, %v", seed, g, back, e)
		}
	}
}

// P14.5: the same, laid within more memory, with marks in some headers.
func TestRandomWithin(t *testing.T) {
	for seed := range uint64(20000) {
		m := newMaker(seed)
		g := m.graph()
		at := m.Uint64N(1<<62)&^7 + 1024
		b, roots, e := Lay(g, at)
		if e != api.OK {
			t.Fatal(seed, e)
		}
		place := 0
		for _, x := range g.Things {
			if m.IntN(2) == 0 {
				b[place] |= 32
			}
			place += int(Size(x))
		}
		ahead, behind := m.bytes(8*m.IntN(20)), m.bytes(m.IntN(40))
		b = slices.Concat([]byte(ahead), b, []byte(behind))
		back, e := Read(b, at-uint64(len(ahead)), roots)
		if c, _ := Canon(g); e != api.OK || !reflect.DeepEqual(back, c) {
			t.Fatalf("%d: %v is read as %v, %v", seed, g, back, e)
		}
	}
}

// P14.2, P14.5: turned about, and with one thing more that nothing reaches, a graph is the same; behind a change as slow readings say.
func TestRandomSame(t *testing.T) {
	differ := 0
	for seed := range uint64(20000) {
		m := newMaker(seed)
		g := m.graph()
		h := copied(g)
		h.Things = append(h.Things, m.thing(len(h.Things)+1))
		h = m.turned(h)
		if !Same(g, h) || !Same(h, g) || !Same(g, g) || !Same(h, h) {
			t.Fatalf("%d: %v and %v are not the same", seed, g, h)
		}
		h = m.spoil(h)
		may := slowGraph(h)
		if (Check(h) == api.OK) != may {
			t.Fatalf("%d: %v: %v", seed, h, Check(h))
		}
		want := may && reflect.DeepEqual(slowCanon(g), slowCanon(h))
		if Same(g, h) != want || Same(h, g) != want || Same(h, h) != may {
			t.Fatalf("%d: %v and %v: %v", seed, g, h, Same(g, h))
		}
		if !want && may {
			differ++
		}
	}
	if differ < 1000 {
		t.Error("only", differ, "were changed so that they may be")
	}
}

// P14.2: all graphs of two things out of a few, each against each.
func TestSmallGraphs(t *testing.T) {
	kinds := []string{"cell 0", "cell @0", "cell @1", "vector", "vector @1 @0"}
	values := []string{"0", "@0", "@1"}
	var all, canons []api.Graph
	for _, a := range kinds {
		for _, b := range kinds {
			for _, r := range values {
				all = append(all, graph(r, a, b))
				for _, s := range values {
					all = append(all, graph(r+" "+s, a, b))
				}
			}
		}
	}
	for _, g := range all {
		canons = append(canons, slowCanon(g))
	}
	for i, g := range all {
		for j, h := range all {
			if want := equal(canons[i], canons[j]); Same(g, h) != want || want != reflect.DeepEqual(canons[i], canons[j]) {
				t.Fatalf("%v and %v: %v", g, h, Same(g, h))
			}
		}
	}
}

// P14.4: memory at random, and laid graphs of which some bits were changed, against slow reading.
func TestRandomMemory(t *testing.T) {
	count := map[api.Errno]int{}
	for seed := range uint64(60000) {
		m := newMaker(seed)
		g := m.graph()
		at := uint64(4096 + 8*m.IntN(4))
		b, roots, e := Lay(g, at)
		if e != api.OK {
			t.Fatal(seed, e)
		}
		b = append(b, m.bytes(m.IntN(9))...)
		for range 1 + m.IntN(3) {
			m.change(b, at, roots)
		}
		if m.IntN(50) == 0 {
			at += one(m, uint64(1), 2, 4, 1<<63, 1<<63-at)
		}
		got, e := Read(b, at, roots)
		want, f := slowRead(b, at, roots)
		if e != f || !reflect.DeepEqual(got, want) {
			t.Fatalf("%d: %x at %x, roots %x:\n%v, %v, not\n%v, %v", seed, b, at, roots, got, e, want, f)
		}
		if e == api.OK && Check(got) != api.OK {
			t.Fatalf("%d: %v may not be", seed, got)
		}
		count[e]++
	}
	if count[api.OK] < 5000 || count[api.ErrLayout] < 5000 || count[api.ErrArg] < 100 {
		t.Error(count)
	}
}

// change changes something in memory, or among roots.
func (m maker) change(b []byte, at uint64, roots []uint64) {
	place := func() uint64 {
		return at + one(m, uint64(8*m.IntN(len(b)/8+1)), uint64(m.IntN(len(b)+1)), uint64(len(b)), 0)
	}
	if len(b) < 8 || m.IntN(6) == 0 {
		if len(roots) > 0 {
			roots[m.IntN(len(roots))] = one(m, place(), at-8, m.Uint64(), 0)
		}
		return
	}
	i := m.IntN(len(b)/8) * 8
	switch m.IntN(4) {
	case 0: // a bit somewhere
		b[m.IntN(len(b))] ^= 1 << m.IntN(8)
	case 1: // a word as another value's
		copy(b[i:], inBytes(one(m, place(), place(), 1, api.CodeBase+16*m.Uint64N(1<<23))))
	case 2: // a word as a header
		copy(b[i:], inBytes(1|m.Uint64N(10)<<1|one(m, 0, uint64(0), 1, 2)<<8|m.Uint64N(10)<<24))
	case 3: // a byte of a header's lowest ones
		b[i+m.IntN(4)] = byte(m.IntN(256))
	}
}

// R1: whatever bytes there are, Read ends.
func TestReadAnything(t *testing.T) {
	for seed := range uint64(20000) {
		m := newMaker(seed)
		b := []byte(m.bytes(m.IntN(64)))
		at := one(m, m.Uint64(), 0, 8, 1<<63-8, 1<<63)
		roots := []uint64{at, m.Uint64(), at + 8, 1}[:m.IntN(5)]
		got, e := Read(b, at, roots)
		want, f := slowRead(b, at, roots)
		if e != f || !reflect.DeepEqual(got, want) {
			t.Fatalf("%d: %x at %x, roots %x:\n%v, %v, not\n%v, %v", seed, b, at, roots, got, e, want, f)
		}
	}
}

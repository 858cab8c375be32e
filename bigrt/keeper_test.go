package bigrt

import (
	"math/rand/v2"
	"testing"

	"smithy/api"
	"smithy/build"
	"smithy/gcrt"
	"smithy/heap"
)

// Places of the data, behind those that the chapters name, by which the test is asked for memory.
const (
	asked    = 256
	answered = 264
)

const (
	keptHeap = 1 << 20
	keptHeld = 4096 // bytes of held words
	keptHalf = (keptHeap - keptHeld) / 2
)

// keeper is a collector that the test itself is, whenever memory is asked for: it holds what programs do against what chapter 15 asks of
// them, moves all that is reached to another place, marks headers or not, and spoils what is left behind.
type keeper struct {
	r       *rand.Rand
	p       uint64            // the four words that a function was handed, 0 between calls
	from    uint64            // where the half of the heap begins that is in use
	next    uint64            // where the next thing may lie
	left    uint64            // where what was used of the other half ends
	given   map[uint64]uint64 // how many bytes were given, by their address
	fresh   map[uint64]uint64 // and in this call
	words   []uint64          // what those of the heap must be
	certain []bool            // whether they must
}

func place(at uint64) uint64 { return (at - heapBase) / 8 }

// note takes a word of the heap for what it must be.
func (k *keeper) note(at, x uint64) {
	if k != nil && at >= heapBase {
		k.words[place(at)], k.certain[place(at)] = x, true
	}
}

// keptFunctions are those of the collector, of which integers call gc.alloc alone: it waits for the test.
func keptFunctions() []api.WordFunction {
	out := gcrt.Functions(1)
	for i, f := range out {
		out[i] = build.Function(f.Name, f.Params, func(b *build.Builder) { b.Ret(b.Const(0)) })
	}
	out[1] = build.Function("gc.alloc", 1, func(b *build.Builder) {
		cells, zero := b.Data(0), b.Const(0)
		b.Store(cells, asked, b.Param(0))
		at := b.Load(cells, answered)
		b.While(at, api.CondEq, zero, func() { b.Into(at, b.Load(cells, answered)) })
		b.Store(cells, answered, zero)
		b.Ret(at)
	})
	return out
}

// newKept is a bench whose collector is the test.
func newKept(t *testing.T, seed uint64, strict bool) *bench {
	t.Helper()
	first := heapBase + keptHeld
	k := &keeper{r: rand.New(rand.NewPCG(seed, 16)), from: first, next: first, left: first + keptHalf,
		given: map[uint64]uint64{}, fresh: map[uint64]uint64{}, words: make([]uint64, keptHeap/8), certain: make([]bool, keptHeap/8)}
	b := &bench{T: t, heap: keptHeap, keeper: k}
	main := build.Function("main", 0, func(b *build.Builder) { b.Ret(b.Const(0)) })
	l := append([]api.WordFunction{main}, keptFunctions()...)
	b.begin(api.WordProgram{Funs: append(l, Functions(len(l), 1)...), Data: make([]byte, gcrt.Cells())}, strict)
	for i, x := range []uint64{heapBase, heapBase, heapBase + keptHeld, 1} {
		b.store(cellsBase+8*uint64(i), x)
	}
	for i := range uint64(8) {
		b.store(cellsBase+32+16*i, 1|api.HeapCell<<1|1<<24)
		b.store(cellsBase+40+16*i, 1)
	}
	b.holdSome()
	return b
}

// serve runs a call to its end, and gives memory whenever it waits for it.
func (b *bench) serve() int {
	for {
		st := b.s.Run(500)
		n := b.load(cellsBase + asked)
		if st != api.Running {
			return st
		}
		if n != 0 {
			b.store(cellsBase+asked, 0)
			b.untouched()
			b.moveAll()
			at := b.placed(n)
			b.keeper.fresh[at] = n
			b.store(cellsBase+answered, at)
		}
	}
}

// placed is where n bytes are that were not given yet. What lies there and beside them is of no use.
func (b *bench) placed(n uint64) uint64 {
	k := b.keeper
	at := k.next + 8*k.r.Uint64N(4)
	if n%8 != 0 || n < 8 || n > keptHalf || at+n+8 > k.from+keptHalf {
		b.Fatalf("%d bytes were asked for", n)
	}
	for i := k.next; i < at+n+8; i += 8 {
		x := k.r.Uint64()
		b.store(i, x)
		k.note(i, x)
	}
	for i := at; i < at+n; i += 8 {
		k.certain[place(i)] = false
	}
	k.given[at], k.next = n, at+n+8
	return at
}

// beginCall has functions set nothing from now on but what they may.
func (b *bench) beginCall(p uint64) {
	if b.keeper != nil {
		b.keeper.p = p
	}
}

// endCall holds what was set. What a function has laid is as it should be from now on.
func (b *bench) endCall() {
	k := b.keeper
	if k == nil {
		return
	}
	b.untouched()
	for at, n := range k.fresh {
		for i := at; i < at+n; i += 8 {
			k.note(i, b.load(i))
		}
	}
	clear(k.fresh)
	k.p = 0
}

// untouched holds that no word of the heap was set that may not be.
func (b *bench) untouched() {
	k := b.keeper
	for _, part := range [][2]uint64{{heapBase, b.load(topAt)}, {k.from, k.next}, {k.other(), k.left}} {
		for at := part[0]; at < part[1]; at += 8 {
			if k.certain[place(at)] && b.load(at) != k.words[place(at)] && (at < k.p || at >= k.p+32) {
				b.Fatalf("the word at %#x was set to %#x, and was %#x", at, b.load(at), k.words[place(at)])
			}
		}
	}
}

// full tells whether it is time that things are let go.
func (k *keeper) full() bool { return k.next > k.from+keptHalf/4 }

// other is where the half begins that is not in use.
func (k *keeper) other() uint64 { return 2*(heapBase+keptHeld) + keptHalf - k.from }

// moveAll moves all that is reached into the other half.
func (b *bench) moveAll() {
	m := &mover{bench: b, keeper: b.keeper, given: b.keeper.given, fresh: b.keeper.fresh, places: map[uint64]uint64{}}
	k := b.keeper
	from, end := k.from, k.next
	k.from = k.other()
	k.next, k.left = k.from, end
	k.given, k.fresh = map[uint64]uint64{}, map[uint64]uint64{}
	for at := b.load(bottomAt); at < b.load(topAt); at += 8 {
		m.set(at)
	}
	m.set(thrownAt)
	for i := range uint64(8) {
		m.set(cellsBase + 40 + 16*i)
	}
	for i := 0; i < len(m.row); i++ {
		_, words := b.thing(m.row[i])
		for j := range words {
			m.set(m.row[i] + 8 + 8*uint64(j))
		}
	}
	for at := from; at < end; at += 8 {
		x := k.r.Uint64()
		b.store(at, x)
		k.note(at, x)
	}
}

// mover is how things are moved.
type mover struct {
	*bench
	*keeper
	given, fresh map[uint64]uint64 // what was given ahead of it
	places       map[uint64]uint64 // where things lie now
	row          []uint64          // these places, in order
}

// set sets a value's word to what it is now.
func (m *mover) set(at uint64) {
	x := m.load(at)
	if x%2 == 0 && x >= heapBase {
		if _, met := m.places[x]; !met {
			m.take(x)
		}
		x = m.places[x]
	}
	m.store(at, x)
	if at >= heapBase && m.certain[place(at)] {
		m.note(at, x)
	}
}

// take moves a thing, which must have just the bytes that were given for it.
func (m *mover) take(x uint64) {
	n, is := m.given[x]
	t, words := m.thing(x)
	t.Refs = make([]api.Ref, len(words))
	if !is || uint64(heap.Size(t)) != n {
		m.Fatalf("%#x is held: %d bytes were given there, %v", x, n, value{thing: &t})
	}
	at := m.placed(n)
	m.store(x, m.load(x)&^mark|mark*m.r.Uint64N(2))
	for i := uint64(0); i < n; i += 8 {
		m.store(at+i, m.load(x+i))
		if m.certain[place(x+i)] {
			m.note(at+i, m.load(x+i))
		}
	}
	if m.fresh[x] != 0 {
		m.keeper.fresh[at] = n
	}
	m.places[x] = at
	m.row = append(m.row, at)
}

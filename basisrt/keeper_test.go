package basisrt

import (
	"math/rand/v2"
	"slices"
	"testing"

	"smithy/api"
	"smithy/bigrt"
	"smithy/build"
	"smithy/gcrt"
)

// Places of the data, behind those that the chapters name, by which the test is asked for memory, and told what was set.
const (
	asked    = 256
	answered = 264
	marked   = 272
)

const (
	keptHeap = 1 << 20
	keptHeld = 4096 // bytes of held words
	keptHalf = (keptHeap - keptHeld) / 2
)

// keeper is a collector that the test itself is: it holds what programs do against what chapter 15 asks of them, moves all that is
// reached to another place whenever memory is asked for, marks headers or not, and spoils what is left behind.
type keeper struct {
	r       *rand.Rand
	p       uint64            // the four words that a function was handed, 0 between calls
	may     uint64            // one more word that it may set
	from    uint64            // where the half of the heap begins that is in use
	next    uint64            // where the next thing may lie
	left    uint64            // where what was used of the other half ends
	given   map[uint64]uint64 // how many bytes were given, by their address
	fresh   map[uint64]uint64 // and in this call
	words   []uint64          // what those of the heap must be
	certain []bool            // whether they must
	marks   []uint64          // what gc.mark was told in this call
}

func place(at uint64) uint64 { return (at - heapBase) / 8 }

// note takes a word of the heap for what it must be.
func (k *keeper) note(at, x uint64) {
	if k != nil && at >= heapBase {
		k.words[place(at)], k.certain[place(at)] = x, true
	}
}

// keptFunctions are those of the collector: gc.alloc and gc.mark wait for the test.
func keptFunctions() []api.WordFunction {
	out := gcrt.Functions(1)
	for i, f := range out[:5] {
		out[i] = build.Function(f.Name, f.Params, func(b *build.Builder) { b.Ret(b.Const(1)) })
	}
	wait := func(b *build.Builder, at, over int) {
		cells, zero := b.Data(0), b.Const(0)
		b.Store(cells, at, b.Param(0))
		x := b.Load(cells, over)
		b.While(x, api.CondEq, zero, func() { b.Into(x, b.Load(cells, over)) })
		b.Store(cells, over, zero)
		b.Ret(x)
	}
	out[1] = build.Function("gc.alloc", 1, func(b *build.Builder) { wait(b, asked, answered) })
	out[4] = build.Function("gc.mark", 1, func(b *build.Builder) { wait(b, marked, answered) })
	return out
}

// newKept is a bench whose collector is the test.
func newKept(t *testing.T, seed uint64, strict bool) *bench {
	t.Helper()
	return keptOf(t, seed, strict, someWorld())
}

func keptOf(t *testing.T, seed uint64, strict bool, w api.World) *bench {
	t.Helper()
	first := heapBase + keptHeld
	k := &keeper{r: rand.New(rand.NewPCG(seed, 17)), from: first, next: first, left: first + keptHalf,
		given: map[uint64]uint64{}, fresh: map[uint64]uint64{}, words: make([]uint64, keptHeap/8), certain: make([]bool, keptHeap/8)}
	b := &bench{T: t, heap: keptHeap, keeper: k, static: gcrt.Cells() + 16, cells: gcrt.Cells()}
	main := build.Function("main", 0, func(b *build.Builder) { b.Ret(b.Const(0)) })
	l := append([]api.WordFunction{main}, keptFunctions()...)
	big := len(l)
	l = append(l, bigrt.Functions(big, 1)...)
	l = append(l, Functions(len(l), 1, big, b.static)...)
	b.begin(api.WordProgram{Funs: l, Data: append(make([]byte, b.static), Static()...)}, strict, w)
	for i, x := range []uint64{heapBase, heapBase, heapBase + keptHeld, 1} {
		b.store(cellsBase+8*uint64(i), x)
	}
	for i := range uint64(cellCount) {
		b.store(cellsBase+32+16*i, 1|api.HeapCell<<1|1<<24)
		b.store(cellsBase+40+16*i, 1)
	}
	b.places = make([]uint64, len(b.things))
	b.holdSome()
	return b
}

// serve runs a call to its end, gives memory whenever it waits for it, and hears what was set.
func (b *bench) serve() int {
	for {
		st := b.s.Run(500)
		if st != api.Running {
			return st
		}
		if n := b.load(cellsBase + asked); n != 0 {
			b.store(cellsBase+asked, 0)
			b.untouched()
			b.moveAll()
			at := b.placed(n)
			b.keeper.fresh[at] = n
			b.store(cellsBase+answered, at)
		}
		if at := b.load(cellsBase + marked); at != 0 {
			b.store(cellsBase+marked, 0)
			b.keeper.marks = append(b.keeper.marks, at)
			b.store(cellsBase+answered, 1)
		}
	}
}

// placed is where n bytes are that were not given yet. What lies there and beside them is of no use.
func (b *bench) placed(n uint64) uint64 {
	k := b.keeper
	at := k.next + 8*k.r.Uint64N(4)
	if n%8 != 0 || n < 8 || n > keptHalf || at+n+8 > k.from+keptHalf {
		b.Fatalf("%d bytes were asked for", n)
	}
	for i := k.next; i < at+n+8; i += 8 {
		b.store(i, k.r.Uint64())
	}
	for i := at; i < at+n; i += 8 {
		k.certain[place(i)] = false
	}
	k.given[at], k.next = n, at+n+8
	return at
}

// beginCall has functions set nothing from now on but what they may.
func (b *bench) beginCall(p, may uint64) {
	if b.keeper != nil {
		b.keeper.p, b.keeper.may, b.keeper.marks = p, may, nil
	}
}

// endCall holds what was set. What a function has laid is as it should be from now on.
func (b *bench) endCall() {
	k := b.keeper
	if k == nil {
		return
	}
	b.untouched()
	for at, n := range k.fresh {
		for i := at; i < at+n; i += 8 {
			k.note(i, b.load(i))
		}
	}
	if k.may >= heapBase {
		k.note(k.may, b.load(k.may))
	}
	for i := k.p; k.p > 0 && i < k.p+32; i += 8 {
		k.note(i, b.load(i))
	}
	clear(k.fresh)
	k.p, k.may = 0, 0
}

// untouched holds that no word of the heap was set that may not be. (Behind the held words there may be anything.)
func (b *bench) untouched() {
	k := b.keeper
	for _, part := range [][2]uint64{{heapBase, b.load(topCell)}, {k.from, k.next}, {k.other(), k.left}} {
		for at := part[0]; at < part[1]; at += 8 {
			if k.certain[place(at)] && at != k.may && b.load(at) != k.words[place(at)] && (at < k.p || at >= k.p+32) {
				b.Fatalf("the word at %#x was set to %#x, and was %#x", at, b.load(at), k.words[place(at)])
			}
		}
	}
}

// full tells whether it is time that things are let go.
func (k *keeper) full() bool { return k.next > k.from+keptHalf/4 }

// other is where the half begins that is not in use.
func (k *keeper) other() uint64 { return 2*(heapBase+keptHeld) + keptHalf - k.from }

// moveAll moves all that is reached into the other half.
func (b *bench) moveAll() {
	k := b.keeper
	m := &mover{bench: b, given: k.given, fresh: k.fresh, places: map[uint64]uint64{}}
	from, end := k.from, k.next
	k.from = k.other()
	k.next, k.left = k.from, end
	k.given, k.fresh = map[uint64]uint64{}, map[uint64]uint64{}
	for at := b.load(bottomCell); at < b.load(topCell); at += 8 {
		m.set(at)
	}
	m.set(raisedCell)
	for i := range uint64(cellCount) {
		m.set(cellsBase + 40 + 16*i)
	}
	for i := 0; i < len(m.row); i++ {
		at := m.row[i]
		n := uint64(len(b.valuesOf(at)))
		at += 8
		if b.load(m.row[i])>>1&15 == api.HeapClosure {
			at += 8
		}
		for j := range n {
			m.set(at + 8*j)
		}
	}
	for at := from; at < end; at += 8 {
		b.store(at, k.r.Uint64())
	}
}

// mover is how things are moved.
type mover struct {
	*bench
	given, fresh map[uint64]uint64 // what was given ahead of it
	places       map[uint64]uint64 // where things lie now
	row          []uint64          // these places, in order
}

// set sets a value's word to what it is now.
func (m *mover) set(at uint64) {
	x := m.load(at)
	if x%2 == 0 && x >= heapBase {
		if _, met := m.places[x]; !met {
			m.take(x)
		}
		x = m.places[x]
	}
	if at < heapBase || !m.keeper.certain[place(at)] {
		m.s.Store(at, 8, x)
	} else {
		m.store(at, x)
	}
}

// take moves a thing, which must have just the bytes that were given for it.
func (m *mover) take(x uint64) {
	n, is := m.given[x]
	m.valuesOf(x)
	if size := sizeOf(m.load(x)); !is || size != n {
		m.Fatalf("%#x is held: %d bytes were given there, what lies there has %d", x, n, size)
	}
	at := m.placed(n)
	m.s.Store(x, 8, m.load(x)&^markBit|markBit*m.keeper.r.Uint64N(2))
	for i := uint64(0); i < n; i += 8 {
		m.s.Store(at+i, 8, m.load(x+i))
		if m.keeper.certain[place(x+i)] {
			m.keeper.note(at+i, m.load(x+i))
		}
	}
	if m.fresh[x] != 0 {
		m.keeper.fresh[at] = n
	}
	m.places[x] = at
	m.row = append(m.row, at)
}

// sizeOf is how many bytes a thing with that header has.
func sizeOf(head uint64) uint64 {
	length := int(head >> 24)
	switch kind := int(head >> 1 & 15); kind {
	case api.HeapBlock, api.HeapCell, api.HeapVector, api.HeapClosure:
		return 8 + 8*uint64(length)
	}
	return uint64(8+length+7) &^ 7
}

// toldOf holds what the collector was told: of a cell that was set, if that is the heap's, or an exception's; of nothing else.
func (b *bench) toldOf(name string, refs []api.Ref) {
	if b.keeper == nil {
		return
	}
	var want []uint64
	if name == "set" && (refs[0].N < cellCount || refs[0].N >= int64(len(b.fixed))) {
		want = []uint64{b.heldOf(refs[0])}
	}
	if !slices.Equal(b.keeper.marks, want) {
		b.Helper()
		b.Fatalf("%s: gc.mark was told %#x, wanted %#x", name, b.keeper.marks, want)
	}
}

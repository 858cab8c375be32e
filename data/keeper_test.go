package data_test

import (
	"math/rand/v2"
	"testing"

	"smithy/api"
	"smithy/build"
	"smithy/word"
	"smithy/world"
)

const (
	cellsBase = uint64(api.DataBase)
	heapBase  = uint64(api.HeapBase)
	markBit   = 32
)

// Places among the collector's own cells, by which the test is asked for memory, and told what was set.
const (
	asked    = 256
	answered = 264
	marked   = 272
)

// keeper is a collector that the test itself is: it holds what a program does against what chapter 15 asks of it, moves all that is
// reached to another place whenever memory is asked for, and spoils what is left behind, and what is behind the held words.
type keeper struct {
	testing.TB
	s      *word.Process
	r      *rand.Rand
	held   uint64 // bytes of held words
	half   uint64
	from   uint64              // where the half begins that is in use
	next   uint64              // where the next thing may lie
	data   uint64              // where the data ends
	given  map[uint64]uint64   // how many bytes were given, by their address
	shadow map[uint64][]uint64 // what things were when memory was asked for last
	marks  map[uint64]bool     // those that gc.mark was told of since
	most   uint64              // bytes that were reached at most
	last   uint64              // and when memory was asked for last
	calls  int                 // how often memory was asked for
	moved  uint64              // bytes that were moved
	lost   bool                // there is no more room
}

// keptProgram is a word program whose collector waits for the test.
func keptProgram(q api.WordProgram) api.WordProgram {
	wait := func(at int) func(b *build.Builder) {
		return func(b *build.Builder) {
			cells, zero := b.Data(0), b.Const(0)
			b.Store(cells, at, b.Param(0))
			x := b.Load(cells, answered)
			b.While(x, api.CondEq, zero, func() { b.Into(x, b.Load(cells, answered)) })
			b.Store(cells, answered, zero)
			b.Ret(x)
		}
	}
	q.Funs = append([]api.WordFunction(nil), q.Funs...)
	for i, f := range q.Funs {
		switch f.Name {
		case "gc.start", "gc.minor", "gc.major":
			q.Funs[i] = build.Function(f.Name, 0, func(b *build.Builder) { b.Ret(b.Const(1)) })
		case "gc.alloc":
			q.Funs[i] = build.Function(f.Name, 1, wait(asked))
		case "gc.mark":
			q.Funs[i] = build.Function(f.Name, 1, wait(marked))
		}
	}
	return q
}

// newKeeper begins a process that has so many bytes of held words, and two halves of so many.
func newKeeper(t testing.TB, q api.WordProgram, w *world.World, held, half uint64, strict bool) *keeper {
	t.Helper()
	s, e := word.New(keptProgram(q), held+2*half, strict, w)
	if e != api.OK {
		t.Fatal(e)
	}
	first := heapBase + held
	k := &keeper{TB: t, s: s, r: rand.New(rand.NewPCG(held, half)), held: held, half: half, from: first, next: first, data: cellsBase + uint64(len(q.Data)),
		given: map[uint64]uint64{}, shadow: map[uint64][]uint64{}, marks: map[uint64]bool{}}
	for i, x := range []uint64{heapBase, heapBase, first, 1} {
		k.store(cellsBase+8*uint64(i), x)
	}
	for at := cellsBase + 32; at < cellsBase+160; at += 16 {
		k.store(at, 1|api.HeapCell<<1|1<<24)
		k.store(at+8, 1)
	}
	for at := heapBase; at < first; at += 8 {
		k.store(at, k.r.Uint64())
	}
	return k
}

func (k *keeper) load(at uint64) uint64 {
	x, is := k.s.Load(at, 8)
	if !is {
		k.Helper()
		k.Fatalf("%#x isn't there", at)
	}
	return x
}

func (k *keeper) store(at, x uint64) {
	if !k.s.Store(at, 8, x) {
		k.Helper()
		k.Fatalf("%#x isn't there", at)
	}
}

// run does some steps, and gives memory whenever it is waited for.
func (k *keeper) run(steps int) int {
	for ; ; steps -= 60 {
		st := k.s.Run(min(steps, 60))
		if st != api.Running || steps <= 60 || k.lost {
			return st
		}
		if n := k.load(cellsBase + asked); n != 0 {
			k.store(cellsBase+asked, 0)
			k.store(cellsBase+answered, k.give(n))
		}
		if at := k.load(cellsBase + marked); at != 0 {
			k.store(cellsBase+marked, 0)
			if !k.reaches(at) && (at < cellsBase+32 || at >= cellsBase+160 || at%16 != 0) {
				k.Fatalf("%#x is marked, and nothing that is reached", at)
			}
			k.marks[at] = true
			k.store(cellsBase+answered, 1)
		}
	}
}

// give moves all that is reached, and gives memory.
func (k *keeper) give(n uint64) uint64 {
	k.calls++
	k.move()
	if n%8 != 0 || n < 8 {
		k.Fatalf("%d bytes were asked for", n)
	}
	at := k.next + 8*k.r.Uint64N(3)
	if at+n+8 > k.from+k.half {
		k.lost = true
		return at
	}
	for i := k.next; i < at+n+8; i += 8 {
		k.store(i, k.r.Uint64())
	}
	k.next, k.given[at] = at+n+8, n
	return at
}

// reaches tells whether a thing is reached. All held words must be values.
func (k *keeper) reaches(thing uint64) bool {
	met, row := map[uint64]bool{}, []uint64{}
	meet := func(at uint64) {
		x := k.load(at)
		if x%2 == 1 || x >= cellsBase && x < k.data || met[x] {
			return
		}
		if n := k.given[x]; n == 0 || sizeOf(k.load(x)) != n {
			k.Fatalf("the word at %#x is %#x, where nothing is", at, x)
		}
		met[x] = true
		row = append(row, x)
	}
	for at := k.load(cellsBase + 8); at < k.load(cellsBase); at += 8 {
		meet(at)
	}
	meet(cellsBase + 24)
	for at := cellsBase + 40; at < cellsBase+160; at += 16 {
		meet(at)
	}
	for i := 0; i < len(row); i++ {
		for _, at := range k.valuesOf(row[i]) {
			meet(at)
		}
	}
	return met[thing]
}

// mover is how things are moved.
type mover struct {
	*keeper
	places map[uint64]uint64 // where things lie now
	row    []uint64          // these places
	given  map[uint64]uint64
	size   uint64
}

// move moves all that is reached into the other half.
func (k *keeper) move() {
	bottom, top, end := k.load(cellsBase+8), k.load(cellsBase), k.load(cellsBase+16)
	if bottom != heapBase || end != heapBase+k.held || top < bottom || top > end || top%8 != 0 {
		k.Fatalf("held words from %#x to %#x, which end at %#x", bottom, top, end)
	}
	from, last := k.from, k.next
	k.from = 2*(heapBase+k.held) + k.half - k.from
	k.next = k.from
	m := &mover{keeper: k, places: map[uint64]uint64{}, given: map[uint64]uint64{}}
	for at := bottom; at < top; at += 8 {
		m.set(at)
	}
	m.set(cellsBase + 24)
	for at := cellsBase + 40; at < cellsBase+160; at += 16 {
		m.set(at)
	}
	for i := 0; i < len(m.row); i++ {
		for _, at := range k.valuesOf(m.row[i]) {
			m.set(at)
		}
	}
	for at := from; at < last; at += 8 {
		k.store(at, k.r.Uint64())
	}
	for at := top; at < min(end, top+400); at += 8 {
		k.store(at, k.r.Uint64())
	}
	k.given, k.marks, k.last, k.most, k.moved = m.given, map[uint64]bool{}, m.size, max(k.most, m.size), k.moved+m.size
	k.shadow = map[uint64][]uint64{}
	for at, n := range k.given {
		k.shadow[at] = k.words(at, n)
	}
}

func (k *keeper) words(at, n uint64) []uint64 {
	var out []uint64
	for i := uint64(0); i < n; i += 8 {
		out = append(out, k.load(at+i))
	}
	return out
}

// valuesOf are the places of a thing's values.
func (k *keeper) valuesOf(at uint64) []uint64 {
	head := k.load(at)
	var out []uint64
	switch kind := head >> 1 & 15; kind {
	case api.HeapBlock, api.HeapCell, api.HeapVector, api.HeapClosure:
		for i := range head >> 24 {
			if kind != api.HeapClosure || i > 0 {
				out = append(out, at+8+8*i)
			}
		}
	}
	return out
}

// set sets a value's word to what it is now.
func (m *mover) set(at uint64) {
	x := m.load(at)
	switch {
	case x%2 == 1:
	case x >= cellsBase && x < m.data && x%8 == 0:
		if head := m.load(x); head%2 == 0 || head>>1&15 == 0 || head>>1&15 > api.HeapClosure || head&0xc0 != 0 {
			m.Fatalf("the word at %#x is %#x: no thing of the data", at, x)
		}
	default:
		if _, met := m.places[x]; !met {
			m.take(at, x)
		}
		m.store(at, m.places[x])
	}
}

// take moves a thing, which must have just the bytes that were given for it.
func (m *mover) take(at, x uint64) {
	n, is := m.keeper.given[x]
	if !is {
		m.Fatalf("the word at %#x is %#x, where nothing is", at, x)
	}
	head := m.load(x)
	if size := sizeOf(head); head%2 == 0 || head&0xc0 != 0 || size != n {
		m.Fatalf("%#x is held: %d bytes were given there, what lies there has %d", x, n, size)
	}
	m.unmarked(x, n, head)
	to := m.next
	m.store(x, head&^markBit|markBit*m.r.Uint64N(2))
	for i := uint64(0); i < n; i += 8 {
		m.store(to+i, m.load(x+i))
	}
	m.places[x], m.given[to] = to, n
	m.row = append(m.row, to)
	m.next += n
	m.size += n
}

// unmarked holds that a thing is as it was, or that gc.mark was told, or that it is bytes.
func (m *mover) unmarked(x, n, head uint64) {
	was, is := m.shadow[x]
	if !is || head>>1&15 == api.HeapBytes {
		return
	}
	for i, now := range m.words(x, n) {
		if now != was[i] && (i == 0 || !m.marks[x] || head>>1&15 != api.HeapCell && head>>1&15 != api.HeapClosure) {
			m.Fatalf("the word %d of %#x, with header %#x, was set to %#x, and was %#x", i, x, head, now, was[i])
		}
	}
}

// sizeOf is how many bytes a thing with that header has.
func sizeOf(head uint64) uint64 {
	length := head >> 24
	switch head >> 1 & 15 {
	case api.HeapBlock, api.HeapCell, api.HeapVector, api.HeapClosure:
		return 8 + 8*length
	}
	return (8 + length + 7) &^ 7
}

// The sizes of what a keeper has, if nothing else is asked for.
const (
	someHeld = 1 << 16
	someHalf = 1 << 18
)

// keptIn holds a program in a world with the test as its collector; it answers nil, if the run is stuck, or there is too little memory.
func keptIn(t testing.TB, p api.Program, w api.World, strict bool) *keeper {
	t.Helper()
	return keptMade(t, p, made(t, p), w, strict)
}

// keptMade holds words that were made of it.
func keptMade(t testing.TB, p api.Program, q api.WordProgram, w api.World, strict bool) *keeper {
	t.Helper()
	run := outcome(t, p, w)
	if run.Status == api.Stuck {
		return nil
	}
	mine := world.New(w)
	k := newKeeper(t, q, mine, someHeld, someHalf, strict)
	for k.calls < 1000 && k.moved < 1<<22 && k.s.Steps() < enough || run.Status == api.Exited && k.s.Steps() < patience {
		status := k.run(5000)
		if _, said := beforeMemory(mine.Trace(), fullCode); said {
			status = k.run(1)
		}
		if k.lost || k.moved > 1<<26 {
			return nil
		}
		if alike, _ := isAlike(run, status, k.s.Code(), mine.Trace()); !alike {
			t.Fatalf("behind %d steps %d, code %d, %.300v, not %.300v: %.3000s", k.s.Steps(), status, k.s.Code(), mine.Trace(), run, shown(p))
		}
		if status == api.Exited {
			return k
		}
	}
	if run.Status == api.Exited {
		t.Fatalf("does not end: %.300s", shown(p))
	}
	return k
}

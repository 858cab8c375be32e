package gcrt

import (
	"cmp"
	"encoding/binary"
	"os"
	"runtime/debug"
	"slices"
	"sync"
	"testing"

	"smithy/api"
	"smithy/heap"
	"smithy/word"
	"smithy/world"
)

const (
	least     = uint64(api.MinHeap)
	cellsBase = uint64(api.DataBase)
	heapBase  = uint64(api.HeapBase)
	cellCount = 8
	spareAt   = 160
	spareEnd  = 256
	mark      = uint64(32)
)

func small(n int64) api.Ref { return api.Ref{Kind: api.RefSmall, N: n} }
func thing(n int64) api.Ref { return api.Ref{Kind: api.RefThing, N: n} }

func block(tag int, l ...api.Ref) api.Thing { return api.Thing{Kind: api.HeapBlock, Tag: tag, Refs: l} }
func closure(f int, l ...api.Ref) api.Thing { return api.Thing{Kind: api.HeapClosure, Tag: f, Refs: l} }
func vector(l ...api.Ref) api.Thing         { return api.Thing{Kind: api.HeapVector, Refs: l} }
func cell(v api.Ref) api.Thing              { return api.Thing{Kind: api.HeapCell, Refs: []api.Ref{v}} }
func text(s string) api.Thing               { return api.Thing{Kind: api.HeapText, Bytes: s} }
func bytesOf(s string) api.Thing            { return api.Thing{Kind: api.HeapBytes, Bytes: s} }
func real(bits string) api.Thing            { return api.Thing{Kind: api.HeapReal, Bytes: bits} }
func bigOf(below int, limbs string) api.Thing {
	return api.Thing{Kind: api.HeapBig, Tag: below, Bytes: limbs}
}

// quarter is how many bytes reached things and what is asked for may have together, 8 being a divisor.
func quarter(heap uint64) uint64 { return (heap/4 - 256) &^ 7 }

// mostSteps is the greatest number of steps of a call.
func mostSteps(heap uint64) int { return 4000 + 40*int(heap/8) }

// bench is a process of the collector, and what its memory should hold.
type bench struct {
	*testing.T
	s      *word.Process
	w      *world.World
	heap   uint64
	extra  []byte      // the data behind the cells
	spare  []uint64    // the words that anybody may use
	things []api.Thing // all that ever were: the cells of exceptions, those in the data, those that were made
	fixed  []uint64    // where the first of these lie
	stack  []api.Ref   // the held words from the bottom on
	raised api.Ref     // the held word at 24
	met    []int64     // the things that are reached
	places []uint64    // where these lie; 0 of the others
	size   uint64      // how many bytes those of the heap have
}

// newBench is a bench whose heap is set up; its data has some things, behind bytes that are none.
func newBench(t *testing.T, size uint64, strict bool, inData ...api.Thing) *bench {
	t.Helper()
	b := &bench{T: t, heap: size, raised: small(0), w: world.New(api.World{Stdin: "one"})}
	for i := range uint64(cellCount) {
		b.things = append(b.things, cell(small(0)))
		b.fixed = append(b.fixed, cellsBase+32+16*i)
	}
	b.layData(inData)
	p := Program()
	p.Data = append(p.Data, b.extra...)
	s, e := word.New(p, size, strict, b.w)
	if e != api.OK {
		t.Fatal(e)
	}
	b.s, b.spare = s, make([]uint64, (spareEnd-spareAt)/8)
	b.done("gc.start")
	for i := range b.spare {
		b.setSpare(i, 0x1122334455667788*uint64(i+1))
	}
	return b
}

// layData makes the data behind the cells; things' numbers there are those of inData, behind the cells of exceptions.
func (b *bench) layData(inData []api.Thing) {
	const pad = 40
	at := cellsBase + uint64(Cells()) + pad
	laid, _, e := heap.Lay(api.Graph{Things: inData}, at)
	if e != api.OK {
		b.Fatal(e)
	}
	b.extra = slices.Concat(slices.Repeat([]byte{0xa5}, pad), laid, slices.Repeat([]byte{0x5a}, pad))
	for _, t := range inData {
		refs := slices.Clone(t.Refs)
		for i, r := range refs {
			if r.Kind == api.RefThing {
				refs[i].N += cellCount
			}
		}
		b.fixed = append(b.fixed, at)
		at += uint64(heap.Size(t))
		t.Refs = refs
		b.things = append(b.things, t)
	}
}

// load is a word of memory.
func (b *bench) load(at uint64) uint64 {
	x, there := b.s.Load(at, 8)
	if !there {
		b.Helper()
		b.Fatalf("no word at %#x", at)
	}
	return x
}

func (b *bench) store(at, x uint64) {
	if !b.s.Store(at, 8, x) {
		b.Helper()
		b.Fatalf("no word at %#x", at)
	}
}

func (b *bench) setSpare(i int, x uint64) {
	b.spare[i] = x
	b.store(cellsBase+spareAt+8*uint64(i), x)
}

func (b *bench) top() uint64    { return b.load(cellsBase) }
func (b *bench) bottom() uint64 { return b.load(cellsBase + 8) }
func (b *bench) end() uint64    { return b.load(cellsBase + 16) }

// call does a call, which must answer within the steps that are promised, without a word to the world.
func (b *bench) call(name string, args ...uint64) uint64 {
	b.Helper()
	if e := b.s.Enter(name, args); e != api.OK {
		b.Fatal(name, e)
	}
	steps := b.s.Steps()
	if st := b.s.Run(mostSteps(b.heap)); st != api.WordDone || len(b.w.Trace()) != 0 {
		b.Fatalf("%s %d: %d behind %d steps, code %d, %v; %d bytes are reached, the heap has %d", name, args, st, b.s.Steps()-steps, b.s.Code(), b.w.Trace(), b.size, b.heap)
	}
	return b.s.Answer()
}

// ends does a call that must write "out of memory", and nothing else.
func (b *bench) ends(name string, args ...uint64) {
	b.Helper()
	if e := b.s.Enter(name, args); e != api.OK {
		b.Fatal(name, e)
	}
	st := b.s.Run(mostSteps(b.heap))
	l := b.w.Trace()
	if st != api.Exited || b.s.Code() != 137 || len(l) != 1 || l[0] != (api.Event{Kind: api.EventErr, Text: "out of memory"}) {
		b.Fatalf("%s %d: %d, code %d, %v", name, args, st, b.s.Code(), l)
	}
}

// done does a call of a function that answers 1, and looks at all that is held.
func (b *bench) done(name string, args ...uint64) {
	b.Helper()
	if x := b.call(name, args...); x != 1 {
		b.Fatal(name, "answers", x)
	}
	b.walk()
}

// roots are the held values, rootWords the words that they are in memory.
func (b *bench) roots() []api.Ref {
	out := append(slices.Clone(b.stack), b.raised)
	for i := range cellCount {
		out = append(out, b.things[i].Refs[0])
	}
	return out
}

func (b *bench) rootWords() []uint64 {
	var out []uint64
	for at := b.bottom(); at < b.top(); at += 8 {
		out = append(out, b.load(at))
	}
	out = append(out, b.load(cellsBase+24))
	for _, at := range b.fixed[:cellCount] {
		out = append(out, b.load(at+8))
	}
	return out
}

// walk finds where the things lie that are reached, and holds them against what they should be.
func (b *bench) walk() {
	b.Helper()
	refs, words := b.roots(), b.rootWords()
	if len(refs) != len(words) {
		b.Fatalf("%d held words, wanted %d", len(words), len(refs))
	}
	b.met, b.places, b.size = b.met[:0], make([]uint64, len(b.things)), 0
	for i, r := range refs {
		b.meet(r, words[i])
	}
	for i := 0; i < len(b.met); i++ {
		b.look(b.met[i])
	}
	b.apart()
	b.beside()
}

// meet holds a value against its word.
func (b *bench) meet(r api.Ref, w uint64) {
	switch {
	case r.Kind == api.RefSmall:
		if w != uint64(r.N)<<1|1 {
			b.Helper()
			b.Fatalf("%#x is not the small number %d", w, r.N)
		}
	case b.places[r.N] == 0:
		b.places[r.N] = w
		b.met = append(b.met, r.N)
	case b.places[r.N] != w:
		b.Helper()
		b.Fatalf("thing %d lies at %#x and at %#x", r.N, b.places[r.N], w)
	}
}

// look holds a thing that was met against what lies in memory.
func (b *bench) look(n int64) {
	t, at := b.things[n], b.places[n]
	if n < int64(len(b.fixed)) && at != b.fixed[n] {
		b.Fatalf("thing %d lies at %#x, and doesn't move from %#x", n, at, b.fixed[n])
	}
	if h := b.load(at); h&^mark != heap.Header(t) {
		b.Fatalf("thing %d: header %#x, wanted %#x", n, h, heap.Header(t))
	}
	at += 8
	if t.Kind == api.HeapClosure {
		if f := b.load(at); f != api.CodeBase+16*uint64(t.Tag) {
			b.Fatalf("thing %d: code %#x", n, f)
		}
		at += 8
	}
	for _, w := range wordsOf(t.Bytes) {
		if x := b.load(at); x != w {
			b.Fatalf("thing %d: bytes %#x, wanted %#x", n, x, w)
		}
		at += 8
	}
	for _, r := range t.Refs {
		b.meet(r, b.load(at))
		at += 8
	}
}

// wordsOf are the bytes of a text as words.
func wordsOf(s string) []uint64 {
	var out []uint64
	for len(s) > 0 {
		var w [8]byte
		s = s[copy(w[:], s):]
		out = append(out, binary.LittleEndian.Uint64(w[:]))
	}
	return out
}

// span is bytes from an address on.
type span struct{ at, size uint64 }

// spans are those of the reached things of the heap, by rising addresses.
func (b *bench) spans() []span {
	var out []span
	for _, n := range b.met {
		if n >= int64(len(b.fixed)) {
			out = append(out, span{b.places[n], uint64(heap.Size(b.things[n]))})
		}
	}
	slices.SortFunc(out, func(a, c span) int { return cmp.Compare(a.at, c.at) })
	return out
}

// apart holds that things lie in the heap, beside the held words, and no two of them one across another.
func (b *bench) apart() {
	b.Helper()
	last, held := heapBase, span{b.bottom(), b.end() - b.bottom()}
	for _, s := range b.spans() {
		if s.at < last || s.at%8 != 0 || s.at+s.size > heapBase+b.heap || s.at < held.at+held.size && held.at < s.at+s.size {
			b.Fatalf("%d bytes at %#x, behind what ends at %#x; held words at %#x to %#x", s.size, s.at, last, held.at, held.at+held.size)
		}
		last = s.at + s.size
		b.size += s.size
	}
}

// beside holds that data behind the cells, words that anybody may use, and headers of cells are as they were.
func (b *bench) beside() {
	b.Helper()
	for i, x := range b.extra {
		if y, _ := b.s.Load(cellsBase+uint64(Cells()+i), 1); y != uint64(x) {
			b.Fatalf("byte %d behind the cells: %#x, wanted %#x", i, y, x)
		}
	}
	for i, x := range b.spare {
		if y := b.load(cellsBase + spareAt + 8*uint64(i)); y != x {
			b.Fatalf("the word at %d: %#x, wanted %#x", spareAt+8*i, y, x)
		}
	}
	for i := range cellCount {
		if h := b.load(b.fixed[i]); h&^mark != heap.Header(b.things[i]) {
			b.Fatalf("cell %d: header %#x", i, h)
		}
	}
}

// give is gc.alloc of n bytes: they lie in the heap, and nothing that is held does.
func (b *bench) give(n uint64) uint64 {
	b.Helper()
	at := b.call("gc.alloc", n)
	b.walk()
	held := append(b.spans(), span{b.bottom(), b.end() - b.bottom()})
	if at%8 != 0 || at < heapBase || at > heapBase+b.heap || n > heapBase+b.heap-at {
		b.Fatalf("%d bytes at %#x are not in the heap", n, at)
	}
	for _, s := range held {
		if at < s.at+s.size && s.at < at+n {
			b.Fatalf("%d bytes at %#x are given, %d at %#x are held", n, at, s.size, s.at)
		}
	}
	return at
}

// word is a value's word.
func (b *bench) word(r api.Ref) uint64 {
	if r.Kind == api.RefSmall {
		return uint64(r.N)<<1 | 1
	}
	if r.N < int64(len(b.fixed)) {
		return b.fixed[r.N]
	}
	if b.places[r.N] == 0 {
		b.Helper()
		b.Fatalf("thing %d isn't reached", r.N)
	}
	return b.places[r.N]
}

// lay lays a thing at an address; its values may be itself.
func (b *bench) lay(t api.Thing, at uint64) api.Ref {
	n := int64(len(b.things))
	t.Refs = slices.Clone(t.Refs)
	b.things = append(b.things, t)
	b.places = append(b.places, at)
	b.store(at, heap.Header(t))
	at += 8
	if t.Kind == api.HeapClosure {
		b.store(at, api.CodeBase+16*uint64(t.Tag))
		at += 8
	}
	for _, w := range wordsOf(t.Bytes) {
		b.store(at, w)
		at += 8
	}
	for _, r := range t.Refs {
		b.store(at, b.word(r))
		at += 8
	}
	return thing(n)
}

// make makes a thing that is not held yet.
func (b *bench) make(t api.Thing) api.Ref {
	b.Helper()
	return b.lay(t, b.give(uint64(heap.Size(t))))
}

// self is the value that the next thing that is made will be.
func (b *bench) self() api.Ref { return thing(int64(len(b.things))) }

// push holds a value more.
func (b *bench) push(r api.Ref) {
	top := b.top()
	if top >= b.end() {
		b.Helper()
		b.Fatal("no more room for held words")
	}
	b.store(top, b.word(r))
	b.store(cellsBase, top+8)
	b.stack = append(b.stack, r)
}

// pop lets go of the last values.
func (b *bench) pop(n int) {
	b.stack = b.stack[:len(b.stack)-n]
	b.store(cellsBase, b.top()-8*uint64(n))
}

// hold makes a thing, and holds it.
func (b *bench) hold(t api.Thing) api.Ref {
	b.Helper()
	r := b.make(t)
	b.push(r)
	return r
}

// holdAt sets a held word: one of the stack, or that at 24, the number then being that of the stack.
func (b *bench) holdAt(i int, r api.Ref) {
	if i == len(b.stack) {
		b.raised = r
		b.store(cellsBase+24, b.word(r))
		return
	}
	b.stack[i] = r
	b.store(b.bottom()+8*uint64(i), b.word(r))
}

// field is where a value of a thing lies.
func (b *bench) field(n int64, i int) uint64 {
	at := b.word(thing(n)) + 8 + 8*uint64(i)
	if b.things[n].Kind == api.HeapClosure {
		at += 8
	}
	return at
}

// set sets a value of a thing, without a mark.
func (b *bench) set(of api.Ref, i int, r api.Ref) {
	b.store(b.field(of.N, i), b.word(r))
	b.things[of.N].Refs[i] = r
}

// change sets a value of a thing that was made long ago.
func (b *bench) change(of api.Ref, i int, r api.Ref) {
	b.Helper()
	b.set(of, i, r)
	b.mark(of)
}

func (b *bench) mark(of api.Ref) {
	b.Helper()
	if x := b.call("gc.mark", b.word(of)); x != 1 {
		b.Fatal("gc.mark answers", x)
	}
}

// mostRead is the greatest heap of a bench that is read.
const mostRead = 1 << 20

// all is all memory from the data's beginning on, which benches have in common: there is much room between data and heap, of which
// nothing is ever touched.
var (
	all   []byte
	ofAll sync.Mutex
)

func TestMain(m *testing.M) {
	all = make([]byte, heapBase-cellsBase+mostRead) // first of all, so that it is new and needn't be cleared
	debug.SetGCPercent(10)                          // as much again as all that would be let lie about else
	os.Exit(m.Run())
}

// read holds what heap.Read tells of the held words against what was made.
func (b *bench) read() {
	b.Helper()
	ofAll.Lock()
	defer ofAll.Unlock()
	far := heapBase - cellsBase
	if b.heap > mostRead {
		b.Fatal("too great to be read")
	}
	fill := func(at, n uint64) {
		for i := at; i+8 <= at+n; i += 8 {
			binary.LittleEndian.PutUint64(all[i-cellsBase:], b.load(i))
		}
	}
	fill(cellsBase, uint64(Cells()+len(b.extra)))
	fill(heapBase, b.heap)
	g, e := heap.Read(all[:far+b.heap], cellsBase, b.rootWords())
	if e != api.OK || !heap.Same(g, api.Graph{Things: b.things, Roots: b.roots()}) {
		b.Fatalf("what is held is not what was made (%v)", e)
	}
}

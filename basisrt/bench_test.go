package basisrt

import (
	"encoding/binary"
	"slices"
	"testing"

	"smithy/api"
	"smithy/gcrt"
	"smithy/heap"
	"smithy/word"
	"smithy/world"
)

const (
	cellsBase  = uint64(api.DataBase)
	heapBase   = uint64(api.HeapBase)
	topCell    = cellsBase
	bottomCell = cellsBase + 8
	endCell    = cellsBase + 16
	raisedCell = cellsBase + 24
	least      = uint64(api.MinHeap)
	markBit    = uint64(32)
	none       = -1 // no exception
	cellCount  = 8
	unitThing  = cellCount // its number
)

// bench is a process of the runtime, and a model of what its memory should hold.
type bench struct {
	*testing.T
	s      *word.Process
	w      *world.World // the process's
	mirror *world.World // one to which is done what chapter 10 says
	heap   uint64
	data   []byte // at first
	static int    // where Static lies there
	cells  int    // how many bytes are the collector's
	things []api.Thing
	fixed  []uint64 // where the first of these lie, that are outside the heap: cells, unit, and others
	away   []api.Ref
	stack  []api.Ref // held words from the bottom on
	raised api.Ref
	places []uint64 // where things lie that were met; 0 of others
	met    []int64
	keeper *keeper // nil, where the collector is gcrt's
	calls  int
	stuck  bool // what is asked is such that chapter 10's run would be stuck
}

// newBench is a bench of Program, with things in the data behind it.
func newBench(t *testing.T, size uint64, strict bool) *bench {
	t.Helper()
	return benchOf(t, Program(), gcrt.Cells(), size, strict)
}

// benchOf is a bench of a program that has Static at a place of its data.
func benchOf(t *testing.T, p api.WordProgram, static int, size uint64, strict bool) *bench {
	t.Helper()
	return started(t, p, static, someWorld(), size, strict)
}

// benchIn is a bench of Program in a world.
func benchIn(t *testing.T, w api.World, size uint64, strict bool) *bench {
	t.Helper()
	return started(t, Program(), gcrt.Cells(), w, size, strict)
}

func started(t *testing.T, p api.WordProgram, static int, w api.World, size uint64, strict bool) *bench {
	t.Helper()
	b := &bench{T: t, heap: size, static: static, cells: gcrt.Cells()}
	b.begin(p, strict, w)
	b.run("gc.start")
	b.places = make([]uint64, len(b.things))
	b.holdSome()
	return b
}

// someWorld is one with input and files.
func someWorld() api.World {
	return api.World{Stdin: "one\ntwo", Files: []api.File{{Name: "f", Data: "file"}, {Name: "empty"}}}
}

// begin makes the process. Behind its data lie things, and bytes that are none's between them.
func (b *bench) begin(p api.WordProgram, strict bool, w api.World) {
	b.Helper()
	for range cellCount {
		b.add(api.Thing{Kind: api.HeapCell, Refs: []api.Ref{{Kind: api.RefSmall}}}, cellsBase+32+16*uint64(len(b.fixed)))
	}
	b.add(api.Thing{Kind: api.HeapBlock}, cellsBase+uint64(b.static))
	pad := slices.Repeat([]byte{0xa5}, 40)
	place := cellsBase + uint64(len(p.Data)+len(pad))
	first := int64(len(b.things))
	g := api.Graph{Things: awayThings()}
	laid, _, e := heap.Lay(g, place)
	if e != api.OK {
		b.Fatal(e)
	}
	for _, t := range g.Things {
		refs := slices.Clone(t.Refs)
		for i := range refs {
			if refs[i].Kind == api.RefThing {
				refs[i].N += first
			}
		}
		t.Refs = refs
		b.away = append(b.away, b.add(t, place))
		place += uint64(heap.Size(t))
	}
	p.Data = slices.Concat(p.Data, pad, laid, pad)
	b.data, b.w, b.mirror = p.Data, world.New(w), world.New(w)
	b.s, e = word.New(p, b.heap, strict, b.w)
	if e != api.OK {
		b.Fatal(e)
	}
}

// The things outside the heap, by their numbers.
const (
	farText = iota
	farBig
	farBytes
	farReal
	farCell
	farBlock
	farVector
	farUnit
	farList
)

// awayThings are these. Their values are small, or others of them.
func awayThings() []api.Thing {
	small := func(n int64) api.Ref { return api.Ref{Kind: api.RefSmall, N: n} }
	other := func(n int64) api.Ref { return api.Ref{Kind: api.RefThing, N: n} }
	number, _ := leaf(huge("~123456789012345678901234567890"))
	one, _ := leaf(1.5)
	return []api.Thing{
		{Kind: api.HeapText, Bytes: "outside"}, number, {Kind: api.HeapBytes, Bytes: "\x01\x02\x03\x04\x05\x06\x07\x08\x09"}, one,
		{Kind: api.HeapCell, Refs: []api.Ref{other(farText)}}, {Kind: api.HeapBlock, Tag: 3, Refs: []api.Ref{other(farText), small(7)}},
		{Kind: api.HeapVector, Refs: []api.Ref{small(1), other(farBig), small(3)}}, {Kind: api.HeapBlock},
		{Kind: api.HeapBlock, Tag: 1, Refs: []api.Ref{other(farList + 1)}}, {Kind: api.HeapBlock, Refs: []api.Ref{other(farText), small(0)}},
	}
}

// add is a thing of the model that lies outside the heap.
func (b *bench) add(t api.Thing, place uint64) api.Ref {
	b.things = append(b.things, t)
	b.fixed = append(b.fixed, place)
	return api.Ref{Kind: api.RefThing, N: int64(len(b.things) - 1)}
}

// load is a word of memory.
func (b *bench) load(place uint64) uint64 {
	x, there := b.s.Load(place, 8)
	if !there {
		b.Helper()
		b.Fatalf("no word at %#x", place)
	}
	return x
}

// store sets a word, which functions may not set: it is known from now on.
func (b *bench) store(place, x uint64) {
	if !b.s.Store(place, 8, x) {
		b.Helper()
		b.Fatalf("no word at %#x", place)
	}
	b.keeper.note(place, x)
}

// enter begins a call, and does it to its end: how the process stands then.
func (b *bench) enter(name string, args ...uint64) int {
	if e := b.s.Enter(name, args); e != api.OK {
		b.Helper()
		b.Fatal(name, e)
	}
	if b.keeper != nil {
		return b.serve()
	}
	return b.s.Run(1 << 40)
}

// run does a call that must answer.
func (b *bench) run(name string, args ...uint64) uint64 {
	if st := b.enter(name, args...); st != api.WordDone {
		b.Helper()
		b.Fatalf("%s: %d, code %d, %v", name, st, b.s.Code(), b.w.Trace())
	}
	return b.s.Answer()
}

// alloc is where n bytes are that nothing is laid in yet.
func (b *bench) alloc(n uint64) uint64 {
	if b.keeper == nil {
		return b.run("gc.alloc", n)
	}
	if b.keeper.full() {
		b.moveAll()
	}
	return b.placed(n)
}

// pushWord holds a word more, which is a value of the model.
func (b *bench) pushWord(x uint64, r api.Ref) {
	top := b.load(topCell)
	b.store(top, x)
	b.store(topCell, top+8)
	b.stack = append(b.stack, r)
}

// popTo lets go of all held words but the first n.
func (b *bench) popTo(n int) {
	b.stack = b.stack[:n]
	b.store(topCell, b.load(bottomCell)+8*uint64(n))
}

// heldWord is the n-th held word.
func (b *bench) heldWord(n int) uint64 { return b.load(b.load(bottomCell) + 8*uint64(n)) }

// push holds a value more, that is made if it is none that is there.
func (b *bench) push(x any) {
	if n, is := number(x); is {
		b.pushWord(uint64(n)<<1|1, api.Ref{Kind: api.RefSmall, N: n})
		return
	}
	if t, is := leaf(x); is {
		b.make(t)
		return
	}
	if t, parts, is := node(x); is {
		base := len(b.stack)
		for _, part := range parts {
			b.push(part)
		}
		t.Refs = slices.Clone(b.stack[base:])
		b.make(t)
		return
	}
	switch x := x.(type) {
	case at:
		b.pushWord(b.heldWord(int(x)), b.stack[x])
	case unit:
		b.pushFixed(unitThing)
	case exn:
		b.pushFixed(int64(x))
	case far:
		b.pushFixed(b.away[x].N)
	case list:
		b.pushList(x)
	default:
		b.Helper()
		b.Fatalf("%T is no value", x)
	}
}

func (b *bench) pushFixed(n int64) {
	b.pushWord(b.fixed[n], api.Ref{Kind: api.RefThing, N: n})
}

// pushList makes a list, the last element first.
func (b *bench) pushList(l list) {
	base := len(b.stack)
	b.push(0)
	for _, x := range slices.Backward(l) {
		b.push(tuple(x, at(base)))
		b.push(block{1, []any{at(base + 1)}})
		b.keepLast(base)
	}
}

// keepLast lets go of the held words from base on but the last one.
func (b *bench) keepLast(base int) {
	last := len(b.stack) - 1
	x, r := b.heldWord(last), b.stack[last]
	b.popTo(base)
	b.pushWord(x, r)
}

// make makes a thing, whose values are the last held words; it is held in their place.
func (b *bench) make(t api.Thing) {
	base := len(b.stack) - len(t.Refs)
	n := int64(len(b.things))
	size := heap.Size(t)
	if size == 0 {
		b.Helper()
		b.Fatal("no thing may be so")
	}
	place := b.alloc(uint64(size))
	b.store(place, heap.Header(t))
	next := place + 8
	if t.Kind == api.HeapClosure {
		b.store(next, api.CodeBase+16*uint64(t.Tag))
		next += 8
	}
	for _, x := range wordsOf(t.Bytes) {
		b.store(next, x)
		next += 8
	}
	for i := range t.Refs {
		b.store(next, b.heldWord(base+i))
		next += 8
	}
	b.things = append(b.things, t)
	b.popTo(base)
	b.pushWord(place, api.Ref{Kind: api.RefThing, N: n})
}

// wordsOf are the bytes of a text as words.
func wordsOf(s string) []uint64 {
	var out []uint64
	for len(s) > 0 {
		var w [8]byte
		s = s[copy(w[:], s):]
		out = append(out, binary.LittleEndian.Uint64(w[:]))
	}
	return out
}

// holdSome holds things of several kinds, by the stack, the word at 24 and a cell; one of them has others and itself.
func (b *bench) holdSome() {
	for _, x := range []any{"held all the time", bytes("\x01\x02\x03"), huge("~99999999999999999999"), -1 << 62, far(farBlock)} {
		b.push(x)
	}
	b.push(ref{tuple(at(0), exn(2), vec{at(1), closed{at(2), 5}})})
	b.push(block{9, []any{at(5), 3}})
	last := always - 1
	b.things[b.stack[last].N].Refs[1] = b.stack[last]
	b.store(b.heldWord(last)+16, b.heldWord(last))
	b.store(raisedCell, b.heldWord(last))
	b.raised = b.stack[last]
	b.setException(3, 0)
}

// always is how many words are held from the beginning on.
const always = 7

// setException sets what is in the cell of an exception to a held word.
func (b *bench) setException(n, held int) {
	b.store(b.fixed[n]+8, b.heldWord(held))
	b.things[n].Refs = []api.Ref{b.stack[held]}
	if b.keeper == nil {
		b.run("gc.mark", b.fixed[n])
	}
}

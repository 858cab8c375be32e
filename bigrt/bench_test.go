package bigrt

import (
	"encoding/binary"
	"slices"
	"testing"

	"smithy/api"
	"smithy/big"
	"smithy/gcrt"
	"smithy/heap"
	"smithy/word"
	"smithy/world"
)

const (
	cellsBase = uint64(api.DataBase)
	heapBase  = uint64(api.HeapBase)
	topAt     = cellsBase
	bottomAt  = cellsBase + 8
	endAt     = cellsBase + 16
	thrownAt  = cellsBase + 24
	least     = uint64(api.MinHeap)
	mark      = uint64(32) // of a header
	none      = -1         // no exception
)

// bench is a process of integers, with words that are held there beside those that functions are handed.
type bench struct {
	*testing.T
	s       *word.Process
	w       *world.World
	heap    uint64
	data    []byte                // behind the cells
	outside map[*api.Thing]uint64 // where things lie that are outside the heap
	away    []value               // these
	keeper  *keeper               // nil, where the collector is gcrt's
	calls   int
}

// newBench is a bench of Program, whose collector is gcrt's.
func newBench(t *testing.T, size uint64, strict bool) *bench {
	t.Helper()
	return benchOf(t, Program(), size, strict)
}

func benchOf(t *testing.T, p api.WordProgram, size uint64, strict bool) *bench {
	t.Helper()
	b := &bench{T: t, heap: size}
	b.begin(p, strict)
	b.run("gc.start")
	b.holdSome()
	return b
}

// begin makes the process, with data behind the cells: bytes that are none's, and things between them.
func (b *bench) begin(p api.WordProgram, strict bool) {
	b.Helper()
	pad := slices.Repeat([]byte{0xa5}, 40)
	at := cellsBase + uint64(len(p.Data)+len(pad))
	var g api.Graph
	b.outside = map[*api.Thing]uint64{}
	b.away = []value{integer(near(power2(100), -1)), integer(big.Neg(power2(64))), integer(power2(62)), realOf(0xc1e0000000300000)}
	for _, v := range b.away {
		b.outside[v.thing] = at
		at += uint64(heap.Size(*v.thing))
		g.Things = append(g.Things, *v.thing)
	}
	laid, _, e := heap.Lay(g, 0)
	if e != api.OK {
		b.Fatal(e)
	}
	b.data = slices.Concat(pad, laid, pad)
	b.w = world.New(api.World{Stdin: "one"})
	p.Data = append(p.Data, b.data...)
	b.s, e = word.New(p, b.heap, strict, b.w)
	if e != api.OK {
		b.Fatal(e)
	}
}

// load is a word of memory.
func (b *bench) load(at uint64) uint64 {
	x, there := b.s.Load(at, 8)
	if !there {
		b.Helper()
		b.Fatalf("no word at %#x", at)
	}
	return x
}

func (b *bench) store(at, x uint64) {
	if !b.s.Store(at, 8, x) {
		b.Helper()
		b.Fatalf("no word at %#x", at)
	}
}

// write sets a word that functions may not set: it is known from now on.
func (b *bench) write(at, x uint64) {
	b.store(at, x)
	b.keeper.note(at, x)
}

// enter begins a call, and does it to its end: how the process stands then.
func (b *bench) enter(name string, args ...uint64) int {
	if e := b.s.Enter(name, args); e != api.OK {
		b.Fatal(name, e)
	}
	if b.keeper != nil {
		return b.serve()
	}
	return b.s.Run(1 << 40)
}

// run does a call that must answer, and not write a word to the world.
func (b *bench) run(name string, args ...uint64) uint64 {
	if st := b.enter(name, args...); st != api.WordDone || len(b.w.Trace()) != 0 {
		b.Helper()
		b.Fatalf("%s: %d, code %d, %v", name, st, b.s.Code(), b.w.Trace())
	}
	return b.s.Answer()
}

// alloc is where n bytes are that nothing is laid in yet.
func (b *bench) alloc(n uint64) uint64 {
	if b.keeper == nil {
		return b.run("gc.alloc", n)
	}
	if b.keeper.full() {
		b.moveAll()
	}
	return b.placed(n)
}

// word is a value's word. If it is a thing of the heap, it is made, and not held.
func (b *bench) word(v value) uint64 {
	if v.thing == nil {
		return uint64(v.small)<<1 | 1
	}
	if at := b.outside[v.thing]; at != 0 {
		return at
	}
	laid, _, e := heap.Lay(api.Graph{Things: []api.Thing{*v.thing}}, 0)
	if e != api.OK {
		b.Helper()
		b.Fatal(v, e)
	}
	at := b.alloc(uint64(len(laid)))
	for i := 0; i < len(laid); i += 8 {
		b.write(at+uint64(i), binary.LittleEndian.Uint64(laid[i:]))
	}
	return at
}

// push holds a word more.
func (b *bench) push(x uint64) {
	top := b.load(topAt)
	b.write(top, x)
	b.write(topAt, top+8)
}

// holdSome holds things of several kinds, by the stack, the word at 24 and a cell; one of them has others and itself.
func (b *bench) holdSome() {
	b.push(b.word(textOf("held all the time")))
	b.push(b.word(thing(api.HeapBytes, 0, "\x01\x02\x03")))
	b.push(b.word(b.away[0]))
	b.push(b.word(number(-1 << 62)))
	b.push(b.word(integer(big.Sub(big.Of(5), power2(200)))))
	at, top := b.alloc(32), b.load(topAt)
	for i, x := range []uint64{1 | api.HeapBlock<<1 | 7<<8 | 3<<24, b.load(top - 8), cellsBase + 32, at} {
		b.write(at+8*uint64(i), x)
	}
	b.push(at)
	b.write(thrownAt, at)
	b.write(cellsBase+32+16*3+8, b.load(top-40))
}

// roots are the held words ahead of p, those of the cells, and the one at 24.
func (b *bench) roots(p uint64) []uint64 {
	var out []uint64
	for at := b.load(bottomAt); at < p; at += 8 {
		out = append(out, b.load(at))
	}
	for i := range uint64(8) {
		out = append(out, b.load(cellsBase+40+16*i))
	}
	return append(out, b.load(thrownAt))
}

// graph is what words of memory are.
func (b *bench) graph(roots ...uint64) api.Graph {
	var g api.Graph
	numbers := map[uint64]int64{}
	var todo []uint64
	refs := func(l []uint64) (out []api.Ref) {
		for _, x := range l {
			n, met := numbers[x]
			switch {
			case x%2 == 1:
				out = append(out, api.Ref{Kind: api.RefSmall, N: int64(x) >> 1})
				continue
			case !met:
				n = int64(len(todo))
				numbers[x] = n
				todo = append(todo, x)
			}
			out = append(out, api.Ref{Kind: api.RefThing, N: n})
		}
		return out
	}
	g.Roots = refs(roots)
	for i := 0; i < len(todo); i++ {
		t, words := b.thing(todo[i])
		t.Refs = refs(words)
		g.Things = append(g.Things, t)
	}
	return g
}

// thing is what lies at an address, and must be laid there as it should; its values by their words.
func (b *bench) thing(at uint64) (api.Thing, []uint64) {
	head := b.load(at) &^ mark
	t := api.Thing{Kind: int(head >> 1 & 15), Tag: int(head >> 8 & 0xffff)}
	length := head >> 24
	if at%8 != 0 || head&0xf1 != 1 || length > b.heap {
		b.Fatalf("no thing at %#x: header %#x", at, head)
	}
	var words []uint64
	if t.Kind == api.HeapBlock || t.Kind == api.HeapCell || t.Kind == api.HeapVector {
		for i := range length {
			words = append(words, b.load(at+8+8*i))
		}
		t.Refs = make([]api.Ref, length)
	} else {
		var all []byte
		for i := uint64(0); i < length; i += 8 {
			all = binary.LittleEndian.AppendUint64(all, b.load(at+8+i))
		}
		t.Bytes = string(all[:length])
		if slices.ContainsFunc(all[length:], func(x byte) bool { return x != 0 }) {
			b.Fatalf("no noughts behind the bytes of %v", value{thing: &t})
		}
	}
	if h := heap.Header(t); h != head {
		b.Fatalf("no thing that may be at %#x: %#x, %v", at, head, value{thing: &t})
	}
	return t, words
}

// hand pushes four words: the arguments, and any values behind them. Where they begin, and where the top was. Each other time the
// arguments are held by other words, too. The words that anybody may use hold anything.
func (b *bench) hand(args []value) (p, top uint64) {
	for i := range uint64(12) {
		b.store(cellsBase+160+8*i, (12*uint64(b.calls)+i+1)*0x9e3779b97f4a7c15)
	}
	top = b.load(topAt)
	p = top
	for i, v := range args {
		if i > 0 && v.thing != nil && v.thing == args[0].thing {
			b.push(b.load(p)) // the same thing
		} else {
			b.push(b.word(v))
		}
	}
	if b.calls++; b.calls%2 == 0 {
		p += 8 * uint64(len(args))
		for i := range args {
			b.push(b.load(top + 8*uint64(i)))
		}
	}
	for i := len(args); i < 4; i++ {
		b.push([]uint64{b.word(b.away[1]), 1<<63 | 1, b.load(top - 8), cellsBase + 48}[(b.calls+i)%4])
	}
	return p, top
}

// ask calls a function of values, and holds all that it may not touch against what it was. What it answers, or which exception it raises.
func (b *bench) ask(name string, args ...value) (value, int) {
	p, top := b.hand(args)
	before, data := b.graph(b.roots(p)...), b.allData()
	b.beginCall(p)
	x := b.run(name, p)
	b.endCall()
	raised := none
	if x == 0 {
		raised = b.raised()
		b.write(thrownAt, b.load(b.load(bottomAt)+40)) // what it was
	}
	if !slices.Equal(b.allData(), data) {
		b.Fatalf("%s: the data is not what it was", name)
	}
	if !heap.Same(b.graph(b.roots(p)...), before) {
		b.Fatalf("%s: what was held is not the same", name)
	}
	b.graph(b.load(p), b.load(p+8), b.load(p+16), b.load(p+24)) // each is a value's word
	b.write(topAt, top)
	return b.value(x), raised
}

// value is what a word is, if it is a small number or a thing without values; 0, as nothing, is the small number 0.
func (b *bench) value(x uint64) value {
	if x == 0 || x%2 == 1 {
		return number(int64(x) >> 1)
	}
	t, _ := b.thing(x)
	return value{thing: &t}
}

// raised is the exception that the word at 24 is.
func (b *bench) raised() int {
	b.Helper()
	at := b.load(thrownAt)
	t, words := b.thing(at)
	if at < heapBase || t.Kind != api.HeapBlock || t.Tag != 0 || len(words) != 2 || words[1] != 1 {
		b.Fatalf("what was raised is %v of %x", value{thing: &t}, words)
	}
	n := (words[0] - cellsBase - 32) / 16
	if words[0] != cellsBase+32+16*n || n > 7 {
		b.Fatalf("%#x is no exception", words[0])
	}
	return int(n)
}

// allData are all words of the data that functions may not set, but for those of the collector.
func (b *bench) allData() []uint64 {
	var out []uint64
	cells := uint64(gcrt.Cells())
	for i := uint64(0); i < cells+uint64(len(b.data)); i += 8 {
		if i < 24 || i >= 32 && i < 160 && i%16 == 0 || i >= cells {
			out = append(out, b.load(cellsBase+i))
		}
	}
	return out
}

// is holds what a function answers, or raises, against what it should.
func (b *bench) is(want value, raises int, name string, args ...value) {
	got, raised := b.ask(name, args...)
	if raised != raises || raises == none && !got.same(want) {
		b.Helper()
		b.Fatalf("%s of %v: %v, raised %d; wanted %v, %d", name, args, got, raised, want, raises)
	}
}

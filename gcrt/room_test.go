package gcrt

import (
	"slices"
	"strings"
	"testing"

	"smithy/api"
	"smithy/build"
	"smithy/heap"
	"smithy/word"
	"smithy/world"
)

// filler is a text that has just so many bytes as a thing.
func filler(size uint64) api.Thing { return text(strings.Repeat("f", int(size)-8)) }

// P15.3: bytes of many sizes lie in the heap, and apart from all others that are held.
func TestAlloc(t *testing.T) {
	b := newBench(t, least, true)
	for i := range 2000 {
		n := 8 + 8*(uint64(i*i*7)%uint64(i+1))
		for b.size+n > quarter(least) {
			b.pop(1 + len(b.stack)/2)
			b.walk()
		}
		b.hold(filler(n))
	}
	b.collect()
}

// P15.3, P15.6: what just has room, of heaps of many sizes, again and again; held or not.
func TestJustRoom(t *testing.T) {
	for _, size := range []uint64{least, least + 1, least + 7, least + 8, least + 31, least + 32, 70001, 1 << 17, 1 << 20} {
		b := newBench(t, size, size%2 == 0)
		n := quarter(size)
		for i := range 12 {
			at := b.give(n)
			if i%2 == 0 { // it is held, and let go
				b.lay(filler(n), at)
				b.push(thing(int64(len(b.things) - 1)))
				b.done([]string{"gc.minor", "gc.major"}[i/2%2])
				b.pop(1)
				b.walk()
			}
		}
		b.hold(filler(n - 8))
		for range 30 {
			b.give(8)
			b.done("gc.minor")
		}
		b.done("gc.major")
		b.read()
	}
}

// P15.6: a quarter of the heap, less 256, with what is asked for counted in, stays reached, whatever it is made of.
func TestQuarter(t *testing.T) {
	for _, size := range []uint64{least, least + 9, 1 << 18} {
		for kind := range 5 {
			b := newBench(t, size, kind%2 == 0)
			n := []uint64{8, 16, 64, 1024, 5000 * 8}[kind%4]
			b.holdAt(0, small(0))
			for b.size+n+48 <= quarter(size) && b.top() < b.end() {
				r := b.make([]api.Thing{block(0), cell(b.raised), block(1, small(2), b.raised), filler(48), closure(2, b.raised, small(1))}[kind])
				if kind == 0 || kind == 3 {
					b.push(r)
				} else {
					b.holdAt(len(b.stack), r)
				}
				b.size += uint64(heap.Size(b.things[r.N]))
			}
			b.walk()
			if rest := quarter(size) - b.size - n; rest >= 8 && b.top() < b.end() {
				b.hold(filler(rest))
			}
			b.walk()
			for range 60 {
				b.give(quarter(size) - b.size)
			}
			b.done("gc.minor")
			b.done("gc.major")
			for range 20 * size / n / 64 {
				b.call("gc.alloc", n)
			}
			b.walk()
			b.read()
		}
	}
}

// P15.6: what is held is let go, and other things held, again and again: nothing of it is lost for what comes later.
func TestReplaced(t *testing.T) {
	b := newBench(t, least, true)
	for i := range 200 {
		n := 16 + 8*uint64(i*37%300)
		for b.size+n <= quarter(least) {
			b.hold(filler(n))
			b.size += n
		}
		b.walk()
		b.pop(len(b.stack) - i%3*len(b.stack)/3)
		b.walk()
	}
	b.collect()
}

// P15.3, P15.7: what there is no room for, at once, or behind others that are held.
func TestNoRoom(t *testing.T) {
	for _, size := range []uint64{least, least + 3, 1 << 20, 1 << 30, api.MaxHeap} {
		for _, n := range []uint64{size &^ 7, size&^7 + 8, 2 * size, 1<<40 - 8, 1 << 40} {
			if n >= size&^7 && n <= 1<<40 {
				newBench(t, size, n%16 == 0).ends("gc.alloc", n)
			}
		}
	}
	for _, n := range []uint64{16, 24, 80, 1000, 4096, 16000} {
		b := newBench(t, least, true)
		given := b.chain(func() api.Thing { return block(1, slices.Repeat([]api.Ref{b.raised}, int(n/8-1))...) })
		if given+n <= quarter(least) || b.s.Code() != 137 || !slices.Equal(b.w.Trace(), []api.Event{{Kind: api.EventErr, Text: "out of memory"}}) {
			t.Errorf("with %d bytes held, %d asked for: code %d, %v", given, n, b.s.Code(), b.w.Trace())
		}
	}
}

// chain makes things, each holding the last one, and held by the word at 24, till there is no more room for one; it tells how many
// bytes they have. Each call must end within the steps that are promised.
func (b *bench) chain(make func() api.Thing) uint64 {
	b.Helper()
	given := uint64(0)
	for {
		x := make()
		b.s.Enter("gc.alloc", []uint64{uint64(heap.Size(x))})
		if st := b.s.Run(mostSteps(b.heap)); st == api.Exited {
			return given
		} else if st != api.WordDone {
			b.Fatalf("%d behind %d steps", st, mostSteps(b.heap))
		}
		if r := b.raised; r.Kind == api.RefThing {
			b.places[r.N] = b.load(cellsBase + 24)
		}
		b.holdAt(len(b.stack), b.lay(x, b.s.Answer()))
		if given += uint64(heap.Size(x)); given > b.heap {
			b.Fatal("more is given than there is")
		}
	}
}

// P15.7: gc.full, ahead of gc.start and behind it: its system calls are its only ones, and all else stays.
func TestGcFull(t *testing.T) {
	for _, size := range []uint64{least, 1 << 20, api.MaxHeap} {
		b := newBench(t, size, true, dataThings()...)
		b.hold(text("held"))
		b.ends("gc.full")
		b.walk()
		for _, strict := range []bool{false, true} {
			w := world.New(api.World{})
			w.Err("x")
			s, e := word.New(Program(), size, strict, w)
			if e != api.OK || s.Enter("gc.full", nil) != api.OK || s.Run(4000) != api.Exited || s.Code() != 137 {
				t.Error(e, s.Code())
			}
			if !slices.Equal(w.Trace(), []api.Event{{Kind: api.EventErr, Text: "xout of memory"}}) {
				t.Error(w.Trace())
			}
		}
	}
}

// P15.7: gc.full and gc.alloc end the program also within other calls; nothing behind them is done.
func TestFullWithin(t *testing.T) {
	for _, last := range []func(b *build.Builder){
		func(b *build.Builder) { b.Call(1 + fullFunction) },
		func(b *build.Builder) { b.Call(1+allocFunction, b.Const(1<<40)) },
	} {
		main := build.Function("main", 0, func(b *build.Builder) {
			b.Call(1 + startFunction)
			last(b)
			b.Sys(1, b.Const(1), b.Data(0), b.Const(8))
			b.Ret(b.Const(5))
		})
		p := api.WordProgram{Funs: append([]api.WordFunction{main}, Functions(1)...), Data: make([]byte, Cells())}
		w := world.New(api.World{})
		s, e := word.New(p, least, true, w)
		if e != api.OK || s.Run(mostSteps(least)) != api.Exited || s.Code() != 137 || !slices.Equal(w.Trace(), []api.Event{{Kind: api.EventErr, Text: "out of memory"}}) {
			t.Error(e, s.Code(), w.Trace())
		}
	}
}

// P15.6: each call ends within the steps that are promised, when as much is reached as there is room for, of what is dear to be
// moved: many small things with a value each, or long ones.
func TestStepsFull(t *testing.T) {
	for _, size := range []uint64{least, 1 << 18} {
		for i := range 5 {
			b := newBench(t, size, false)
			spread := b.spread()
			given := b.chain(func() api.Thing {
				r := b.raised
				return []api.Thing{cell(r), block(1, r, r), closure(1, r), vector(slices.Repeat([]api.Ref{r}, 10)...), vector(slices.Repeat([]api.Ref{r}, 500)...)}[i]
			})
			if given < quarter(size)-spread-5000 {
				t.Errorf("only %d bytes were given", given)
			}
			for _, call := range []string{"gc.minor", "gc.major", "gc.minor"} {
				if e := b.s.Enter(call, nil); e != api.OK || b.s.Run(mostSteps(size)) == api.Running {
					t.Errorf("%s goes on behind %d steps", call, mostSteps(size))
				}
			}
		}
	}
}

// spread makes a thing for each of half of the held words that there is room for, the dearest one: it has a header alone. It
// tells how many bytes it took.
func (b *bench) spread() uint64 {
	size := uint64(0)
	for b.top() < b.bottom()+(b.end()-b.bottom())/2 && size+8 < quarter(b.heap) {
		at := b.call("gc.alloc", 8)
		b.places = b.places[:0]
		for range b.things {
			b.places = append(b.places, 0)
		}
		b.push(b.lay(block(0), at))
		size += 8
	}
	b.walk()
	return size
}

// P15.6: what is dear, with no more than a quarter reached: nothing is written.
func TestStepsQuarter(t *testing.T) {
	for _, size := range []uint64{least, 1 << 18} {
		b := newBench(t, size, true)
		b.spread()
		var l []api.Ref
		for n := (quarter(size) - b.size) / 16; n > 8; n-- {
			l = append(l, b.stack[int(n)%len(b.stack)])
		}
		b.hold(vector(l...))
		b.collect()
		for range 100 {
			b.give(quarter(size) - b.size)
		}
	}
}

// The chapter's examples.
func TestExamples(t *testing.T) {
	b := newBench(t, least, true)
	b.give(16)
	if b.top() != b.bottom() {
		t.Error("held words")
	}
	held := b.hold(text("held"))
	for range 1000 {
		b.give(4096)
	}
	if b.load(b.bottom()) != b.word(held) {
		t.Error("the held word is not the text's address")
	}
	b.read()
	b.ends("gc.alloc", least)
}

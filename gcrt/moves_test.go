package gcrt

import (
	"slices"
	"strings"
	"testing"

	"smithy/api"
	"smithy/heap"
)

// collect has things moved in all ways: by gc.minor, by gc.major, and by asking for more than there is room for.
func (b *bench) collect() {
	b.Helper()
	b.done("gc.minor")
	b.done("gc.major")
	b.churn()
	b.done("gc.minor")
	b.read()
}

// churn asks for more bytes than the heap has, by and by, and fills them with words that are no things.
func (b *bench) churn() {
	b.Helper()
	n := (quarter(b.heap) - b.size) / 2 &^ 7
	for given := uint64(0); given <= b.heap; given += n {
		at := b.call("gc.alloc", n)
		for i := uint64(0); i < n; i += 8 {
			b.store(at+i, at+i)
		}
	}
	b.walk()
}

// eachKind are things of each kind, of many lengths; v is their values, one by one in turn.
func eachKind(v ...api.Ref) []api.Thing {
	values := func(n int) []api.Ref {
		var out []api.Ref
		for i := range n {
			out = append(out, v[i%len(v)])
		}
		return out
	}
	letters := strings.Repeat("abcdefghijklm\x00\xff", 40)
	out := []api.Thing{real("\x00\x00\x00\x40\x00\x00\x00\x00"), real("realreal"), cell(v[0])}
	for n := range 40 {
		out = append(out, text(letters[:n]), bytesOf(letters[n:2*n]), vector(values(n)...), block(n*1680, values(n)...), closure(n*107500, values(n)...))
	}
	for _, n := range []int{8, 12, 16, 20, 24, 400} { // limbs, the last of which is not 0
		out = append(out, bigOf(n/4%2, letters[1:n+1]), bigOf(1, letters[1:n+1]))
	}
	for _, tag := range []int{0, 1, 2, 31, 32, 255, 256, 65535} {
		out = append(out, block(tag), block(tag, v[0]), closure(tag), closure(1<<22-1-tag, v[0]))
	}
	return out
}

// P15.4: things of each kind, held by each held word.
func TestKinds(t *testing.T) {
	b := newBench(t, 1<<18, true, dataThings()...)
	b.hold(text("shared"))
	shared := b.stack[0]
	for i, x := range eachKind(small(7), shared, thing(cellCount+2), thing(3), small(-1<<62)) {
		if heap.Check(api.Graph{Things: append(slices.Clone(b.things), x)}) != api.OK {
			t.Fatal("no thing that may be", x)
		}
		r := b.make(x)
		switch i % 4 {
		case 0:
			b.holdAt(len(b.stack), r)
		case 1:
			b.change(thing(int64(i/4%cellCount)), 0, r)
		default:
			b.push(r)
		}
		b.done([]string{"gc.minor", "gc.major"}[i/2%2])
	}
	b.collect()
	if len(b.met) < 120 {
		t.Error("only", len(b.met), "things are reached")
	}
}

// P15.4: each held word by itself holds what it reaches, and nothing else does.
func TestEachHeldWord(t *testing.T) {
	for i := range 3 + 1 + cellCount {
		b := newBench(t, least, i%2 == 0)
		for range 3 {
			b.push(small(1))
		}
		r := b.make(block(3, small(2), b.self()))
		if i < 4 {
			b.holdAt(i, r)
		} else {
			b.set(thing(int64(i-4)), 0, r)
			b.mark(thing(int64(i - 4)))
		}
		inner := b.make(text("inside"))
		b.change(r, 0, inner)
		b.collect()
		if b.size != 24+16 {
			t.Error(b.size, "bytes are reached")
		}
	}
}

// P15.4: things whose values are each other, in rings, shared, themselves.
func TestRings(t *testing.T) {
	b := newBench(t, least, false)
	b.hold(block(1, b.self()))
	b.hold(cell(b.self()))
	b.hold(vector(b.self(), b.self(), small(1), b.self()))
	b.hold(closure(5, b.self(), b.stack[0], b.self()))
	first := b.hold(block(2, small(0), small(0)))
	last := first
	for i := range 100 {
		last = b.hold([]api.Thing{block(3, last, first), cell(last), vector(first, last, b.stack[0]), closure(i, last, last)}[i%4])
	}
	b.change(first, 1, last)
	b.change(first, 0, b.stack[3])
	b.collect()
	for i := range b.stack { // the ring is held by its last thing alone, then by another one
		b.holdAt(i, small(int64(i)))
	}
	b.holdAt(7, last)
	b.collect()
	b.holdAt(7, first)
	b.push(first)
	b.push(first)
	b.collect()
	size := b.size
	for i := range b.stack {
		b.holdAt(i, small(0))
	}
	b.collect()
	if b.size != 0 || size == 0 {
		t.Error(size, b.size)
	}
}

// P15.4: long chains, which no stack of calls must follow.
func TestChains(t *testing.T) {
	const size = 1 << 20
	for _, make := range []func(next api.Ref) api.Thing{
		func(r api.Ref) api.Thing { return block(1, small(4), r) },
		func(r api.Ref) api.Thing { return block(1, r, small(4)) },
		cell,
		func(r api.Ref) api.Thing { return closure(3, r) },
		func(r api.Ref) api.Thing { return vector(small(1), r, r, small(2)) },
	} {
		b := newBench(t, size, false)
		b.push(small(0))
		grows(b, func() {
			x := make(b.stack[0])
			at := b.call("gc.alloc", uint64(heap.Size(x)))
			b.track()
			b.holdAt(0, b.lay(x, at))
		})
		b.walk()
		b.done("gc.major")
		b.done("gc.minor")
		b.read()
		if len(b.met) < 5000 {
			t.Error("a chain of only", len(b.met))
		}
	}
}

// grows does something as long as less than nearly a quarter of the heap is reached, nothing being let go.
func grows(b *bench, do func()) {
	b.Helper()
	b.walk()
	for {
		n := len(b.things)
		do()
		for _, x := range b.things[n:] {
			b.size += uint64(heap.Size(x))
		}
		if b.size+1024 > quarter(b.heap) {
			return
		}
	}
}

// track finds where the first held word's thing lies now, which is all that the next one needs.
func (b *bench) track() {
	if r := b.stack[0]; r.Kind == api.RefThing {
		b.places[r.N] = b.load(b.bottom())
	}
}

// P15.4: things with many thousand values.
func TestBroad(t *testing.T) {
	const size, many = 1 << 20, 9000
	for _, x := range []api.Thing{vector(), block(65535), closure(1<<22 - 1)} {
		b := newBench(t, size, true)
		small1 := b.hold(text(""))
		for range many {
			x.Refs = append(x.Refs, small1)
		}
		broad := b.hold(x)
		inner := api.Ref{}
		for i := range many {
			y := []api.Thing{block(0), cell(broad), text("seven"), vector()}[i%4]
			at := b.call("gc.alloc", uint64(heap.Size(y)))
			b.places[broad.N] = b.load(b.bottom() + 8) // it may have moved
			inner = b.lay(y, at)
			b.set(broad, i, inner)
			b.mark(broad)
		}
		b.walk()
		b.collect()
		if len(b.met) != many+2 {
			t.Error(len(b.met), "things are reached")
		}
		b.change(broad, 0, inner)
		b.change(broad, many-1, broad)
		b.collect()
	}
}

// P15.4: texts of great lengths, each modulo 8, and bytes that look like addresses of things.
func TestLongTexts(t *testing.T) {
	b := newBench(t, 1<<18, false)
	inner := b.hold(text("inner"))
	for i := range 10 {
		var bytes []byte
		for range 500 {
			for at := b.word(inner); at > 0; at >>= 8 {
				bytes = append(bytes, byte(at))
			}
			for len(bytes)%8 != 0 {
				bytes = append(bytes, 0)
			}
		}
		b.hold(api.Thing{Kind: []int{api.HeapText, api.HeapBytes}[i%2], Bytes: string(bytes[:len(bytes)-i])})
		b.collect()
	}
	b.pop(5)
	b.collect()
}

// P15.4: things in the data are met, and don't move, and what they are isn't changed.
func TestOutside(t *testing.T) {
	b := newBench(t, least, true, dataThings()...)
	for n := range b.fixed {
		b.push(thing(int64(n)))
		b.hold(block(4, thing(int64(n)), small(5), thing(int64(n))))
		b.change(thing(int64(n%cellCount)), 0, thing(int64(n)))
		b.holdAt(len(b.stack), thing(int64(n)))
		b.collect()
	}
	ring := b.hold(cell(thing(2)))
	b.change(thing(2), 0, ring) // a cell of exceptions and a cell of the heap hold each other
	b.collect()
}

// P15.4: held words that are addresses outside of all memory, and edges of the heap's, are left alone.
func TestFarAddresses(t *testing.T) {
	for _, size := range []uint64{least, 1 << 17} {
		b := newBench(t, size, true)
		a := b.hold(text("abc"))
		far := []uint64{0, 8, 4096, api.CodeBase, api.CodeBase + 16, cellsBase - 8, cellsBase, cellsBase + uint64(Cells()), heapBase - 8, heapBase - 16,
			heapBase + size, heapBase + size + 8, 1 << 40, 1 << 47, 1 << 63, 1<<63 - 8, ^uint64(0) - 7}
		for _, x := range far {
			top := b.top()
			b.store(top, x)
			b.store(cellsBase, top+8)
		}
		b.store(cellsBase+24, ^uint64(0)-15)
		for range 30 {
			b.call("gc.minor")
			b.call("gc.alloc", size/8&^7)
			b.call("gc.major")
			for i, x := range far {
				if y := b.load(b.bottom() + 8 + 8*uint64(i)); y != x {
					t.Errorf("%#x has become %#x", x, y)
				}
			}
			if b.load(cellsBase+24) != ^uint64(0)-15 {
				t.Error("the word at 24")
			}
		}
		b.store(cellsBase, b.bottom()+8)
		b.store(cellsBase+24, 1)
		b.walk()
		if b.stack[0] != a {
			t.Error("lost")
		}
	}
}

// P15.4: small numbers whose words are close to addresses of things.
func TestSmallsLikeAddresses(t *testing.T) {
	b := newBench(t, least, false)
	a := b.hold(vector(small(1), small(2), small(3), small(4), small(5), small(6)))
	for range 40 {
		for i, d := range []int64{0, 1, -1, 3, 4, 100} {
			b.change(a, i, small(int64(b.word(a)>>1)+d))
		}
		b.push(small(int64(b.word(a) >> 1)))
		b.holdAt(len(b.stack), small(int64(b.word(a)>>1)))
		b.change(thing(4), 0, small(int64(b.word(a)>>1)))
		b.collect()
	}
}

// P15.4: the words from 160 on are neither looked at nor changed: things whose addresses stand only there are lost.
func TestSpareWords(t *testing.T) {
	b := newBench(t, least, true)
	for i := range b.spare {
		r := b.make(text("let go"))
		b.setSpare(i, b.word(r))
	}
	b.collect()
	big := quarter(least) - 64
	for range 20 {
		r := b.make(text(strings.Repeat("x", int(big)-8))) // if it were held by them, two would be too many
		for i := range b.spare {
			b.setSpare(i, b.word(r)+uint64(i%2))
		}
		b.done("gc.minor")
		b.done("gc.major")
	}
	b.collect()
}

// P15.5: whatever the marks of headers are, things are moved, each kind as without them.
func TestMarksOfHeaders(t *testing.T) {
	b := newBench(t, 1<<18, true)
	shared := b.hold(text("shared"))
	for _, x := range eachKind(shared, small(1)) {
		r := b.hold(x)
		b.store(b.word(r), b.load(b.word(r))|mark)
	}
	b.collect()
}

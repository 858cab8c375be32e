package basisrt

import (
	"smithy/api"
	"smithy/heap"
)

// walk finds where the things lie that are reached, and a value that was answered, and holds them against what they should be.
func (b *bench) walk(answer uint64, is api.Ref) {
	b.met, b.places = b.met[:0], make([]uint64, len(b.things))
	known := map[uint64]int64{}
	if n := (b.load(topCell) - b.load(bottomCell)) / 8; n != uint64(len(b.stack)) {
		b.Helper()
		b.Fatalf("%d held words, wanted %d", n, len(b.stack))
	}
	for i, r := range b.stack {
		b.meet(r, b.heldWord(i), known)
	}
	b.meet(b.raised, b.load(raisedCell), known)
	for i := range int64(cellCount) {
		b.meet(api.Ref{Kind: api.RefThing, N: i}, b.fixed[i], known)
	}
	b.meet(is, answer, known)
	for i := 0; i < len(b.met); i++ {
		b.look(b.met[i], known)
	}
}

// meet holds a value against its word. No two things lie at one place.
func (b *bench) meet(r api.Ref, w uint64, known map[uint64]int64) {
	if r.Kind == api.RefSmall {
		if w != uint64(r.N)<<1|1 {
			b.Helper()
			b.Fatalf("%#x is not the small number %d", w, r.N)
		}
		return
	}
	n, met := known[w]
	switch {
	case met && n != r.N:
		b.Helper()
		b.Fatalf("things %d and %d both lie at %#x", n, r.N, w)
	case !met && b.places[r.N] != 0:
		b.Helper()
		b.Fatalf("thing %d lies at %#x and at %#x", r.N, b.places[r.N], w)
	case !met:
		known[w] = r.N
		b.places[r.N] = w
		b.met = append(b.met, r.N)
	}
}

// look holds a thing that was met against what lies in memory.
func (b *bench) look(n int64, known map[uint64]int64) {
	t, place := b.things[n], b.places[n]
	if n < int64(len(b.fixed)) && place != b.fixed[n] {
		b.Fatalf("thing %d lies at %#x, and doesn't move from %#x", n, place, b.fixed[n])
	}
	if n >= int64(len(b.fixed)) && (place < heapBase || place >= heapBase+b.heap || place%8 != 0) {
		b.Fatalf("thing %d lies at %#x, outside the heap", n, place)
	}
	if h := b.load(place); h&^markBit != heap.Header(t) {
		b.Fatalf("thing %d, %s: header %#x, wanted %#x", n, b.told(api.Ref{Kind: api.RefThing, N: n}, 0), h, heap.Header(t))
	}
	place += 8
	if t.Kind == api.HeapClosure {
		if f := b.load(place); f != api.CodeBase+16*uint64(t.Tag) {
			b.Fatalf("thing %d: code %#x", n, f)
		}
		place += 8
	}
	for i, w := range wordsOf(t.Bytes) {
		if x := b.load(place); x != w {
			b.Fatalf("thing %d, %s: word %d is %#x, wanted %#x", n, b.told(api.Ref{Kind: api.RefThing, N: n}, 0), i, x, w)
		}
		place += 8
	}
	for _, r := range t.Refs {
		b.meet(r, b.load(place), known)
		place += 8
	}
}

// wellFormed holds that words, and all that they reach, are values, whatever these are.
func (b *bench) wellFormed(words ...uint64) {
	seen := map[uint64]bool{}
	for len(words) > 0 {
		x := words[len(words)-1]
		words = words[:len(words)-1]
		if x%2 == 1 || seen[x] {
			continue
		}
		seen[x] = true
		words = append(words, b.valuesOf(x)...)
	}
}

// valuesOf are the values of what must be a thing, and laid as it should.
func (b *bench) valuesOf(place uint64) []uint64 {
	head := b.load(place) &^ markBit
	t := api.Thing{Kind: int(head >> 1 & 15), Tag: int(head >> 8 & 0xffff)}
	length := head >> 24
	if place%8 != 0 || head&0xe1 != 1 || length > b.heap {
		b.Fatalf("no thing at %#x: header %#x", place, head)
	}
	var out []uint64
	switch t.Kind {
	case api.HeapBlock, api.HeapCell, api.HeapVector:
		for i := range length {
			out = append(out, b.load(place+8+8*i))
		}
		t.Refs = make([]api.Ref, length)
	case api.HeapClosure:
		for i := range length - 1 {
			out = append(out, b.load(place+16+8*i))
		}
		t.Refs = make([]api.Ref, length-1)
	default:
		t.Bytes = b.bytesAt(place+8, length)
	}
	if h := heap.Header(t); h != head {
		b.Fatalf("no thing that may be at %#x: %#x", place, head)
	}
	return out
}

// bytesAt are bytes of memory; those behind them up to the next word are 0.
func (b *bench) bytesAt(place, n uint64) string {
	out := make([]byte, 0, n+8)
	for i := uint64(0); i < n; i += 8 {
		x := b.load(place + i)
		for range 8 {
			out = append(out, byte(x))
			x >>= 8
		}
	}
	for _, x := range out[n:] {
		if x != 0 {
			b.Fatalf("no noughts behind the bytes at %#x", place)
		}
	}
	return string(out[:n])
}

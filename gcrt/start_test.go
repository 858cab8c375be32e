package gcrt

import (
	"testing"

	"smithy/api"
)

// sizes are those of heaps: the least one, ones of which 8 is no divisor, great ones, the greatest.
func sizes() []uint64 {
	return []uint64{
		least, least + 1, least + 7, least + 8, least + 63, least + 64, 70001, 1 << 17, 1<<17 - 1, 1 << 20, 1<<24 + 3, 1<<27 - 64, 1<<27 - 1, 1 << 27, 1<<27 + 1, 1<<27 + 64, 1 << 28, 1 << 30, 1<<32 + 12345,
		api.MaxHeap - 1, api.MaxHeap,
	}
}

// P15.2: the held words' room, the held words, the cells of exceptions; all else stays.
func TestStart(t *testing.T) {
	for _, size := range sizes() {
		for _, strict := range []bool{false, true} {
			b := newBench(t, size, strict, dataThings()...) // gc.start is called there, and what is held and what lies beside it looked at
			bottom, top, end := b.bottom(), b.top(), b.end()
			if bottom != top || bottom%8 != 0 || bottom < heapBase || bottom >= heapBase+size {
				t.Errorf("heap %d: bottom %#x, top %#x", size, bottom, top)
			}
			if room := end - bottom; end < bottom || end > heapBase+size || (room+64)*8 < size && room+64 < 16777216 {
				t.Errorf("heap %d: %d bytes from %#x to %#x", size, room, bottom, end)
			}
			if b.load(cellsBase+24) != 1 {
				t.Errorf("the word at 24 is %d", b.load(cellsBase+24))
			}
			for i := range uint64(cellCount) {
				if h, v := b.load(cellsBase+32+16*i), b.load(cellsBase+40+16*i); h != 1|api.HeapCell<<1|1<<24 || v != 1 {
					t.Errorf("cell %d: %#x %#x", i, h, v)
				}
			}
			b.walk()
		}
	}
}

// P15.2, P15.4: all the room that there is for held words may be used; what lies beyond the top isn't looked at.
func TestHeldWords(t *testing.T) {
	for _, size := range []uint64{least, least + 5, 100000, 1 << 18} {
		b := newBench(t, size, true)
		a := b.hold(text("first"))
		for b.top() < b.end() {
			b.push(small(int64(b.top() >> 1)))
		}
		b.holdAt(len(b.stack)-1, a)
		b.done("gc.minor")
		b.done("gc.major")
		for i := range b.stack {
			b.holdAt(i, a)
		}
		b.done("gc.major")
		b.read()
		for range 20 {
			b.give(size / 8 &^ 7)
		}
		b.pop(len(b.stack) - 1)
		for at := b.top(); at < b.end(); at += 8 { // words that are no values
			b.store(at, heapBase+uint64(at*at)%size&^7)
		}
		for range 20 {
			b.give(size / 8 &^ 7)
			b.done("gc.minor")
			b.done("gc.major")
		}
		b.pop(1)
		b.done("gc.major")
		if b.size != 0 {
			t.Error(b.size, "bytes are held")
		}
	}
}

package gcrt

import (
	"smithy/api"
	"smithy/build"
)

const (
	mostHeld  = 1 << 24 // bytes of held words for which there is room, in however great a heap
	fullText  = "out of memory"
	errOutput = 2
	sysWrite  = 1
	sysExit   = 60
	exitCode  = 137
)

// start writes gc.start: an eighth of the heap is for the held words, the rest is the two halves.
func start(b *build.Builder) {
	heap, whole := b.Heap(), b.Const(wholeWords)
	held, most := b.Shr(heap, b.Const(3)), b.Const(mostHeld)
	b.When(most, api.CondLtu, held, func() { b.Move(held, most) })
	held = b.And(held, whole)
	half := b.And(b.Shr(b.Sub(heap, held), b.Const(1)), whole)
	bottom := b.Const(api.HeapBase)
	here := b.Add(bottom, held)
	there := b.Add(here, half)

	cells := b.Data(0)
	b.Store(cells, topAt, bottom)
	b.Store(cells, bottomAt, bottom)
	b.Store(cells, endAt, here)
	b.Store(cells, freeAt, here)
	b.Store(cells, stopAt, there)
	b.Store(cells, hereAt, here)
	b.Store(cells, thereAt, there)
	setExceptions(b)
	b.Ret(b.Const(done))
}

// setExceptions lays the cells of exceptions, and the word of what was raised.
func setExceptions(b *build.Builder) {
	value, header, size := b.Const(small0), b.Const(cellHeader), b.Const(cellSize)
	b.Store(b.Data(raisedAt), 0, value)
	cell := b.Data(exceptionsAt)
	b.While(cell, api.CondLtu, b.Data(exceptionsEndAt), func() {
		b.Store(cell, 0, header)
		b.Store(cell, wordBytes, value)
		b.Advance(cell, size)
	})
}

// alloc writes gc.alloc: what has no room is asked for again behind the collector's work.
func alloc(b *build.Builder, base int) {
	n := b.Param(0)
	take(b, n)
	kept := b.Keep(n)
	b.Call(base + majorFunction)
	take(b, b.Kept(kept))
	b.Tail(base + fullFunction)
}

// take answers the address of n bytes, if the half in use has room for them.
func take(b *build.Builder, n build.Reg) {
	cells := b.Data(0)
	free := b.Load(cells, freeAt)
	room := b.Sub(b.Load(cells, stopAt), free)
	b.When(n, api.CondLeu, room, func() {
		b.Store(cells, freeAt, b.Add(free, n))
		b.Ret(free)
	})
}

// full writes gc.full. The text lies in the collector's cells, since the data of a program has none of its own.
func full(b *build.Builder) {
	text := b.Data(textAt)
	b.Store(text, 0, b.Const(wordOf(fullText[:wordBytes])))
	b.Store(text, wordBytes, b.Const(wordOf(fullText[wordBytes:])))
	code := b.Const(exitCode) // ahead of the text's being written, so that the end comes right behind that
	b.Sys(sysWrite, b.Const(errOutput), text, b.Const(int64(len(fullText))))
	b.Ret(b.Sys(sysExit, code))
}

// wordOf has the bytes of a text of at most eight, the first one lowest.
func wordOf(text string) int64 {
	x := int64(0)
	for i := range len(text) {
		x |= int64(text[i]) << (8 * i)
	}
	return x
}

package bigrt

import (
	"smithy/api"
	"smithy/build"
)

// Places of cells in the data.
const (
	raisedAt     = 24
	exceptionsAt = 32
	firstCell    = 160 // the magnitude of the first argument, if that is a small number
	secondCell   = 168
)

// Places of the held words that a function is handed: its arguments, and bytes that it needs for a while.
const (
	firstAt  = 0
	secondAt = 8
	spareAt  = 16
)

// Words and things, as they lie in memory.
const (
	wordBytes  = 8
	wordBits   = 64
	limbBytes  = 4
	limbBits   = 32
	wholeWords = -wordBytes // as bits: all but those that tell a place within a word
	tagAt      = 8          // the bit of a header from which on the tag stands
	lengthAt   = 24         // the bit from which on the length does
	small0     = 1          // the word of the small number 0
	allOnes    = -1
)

// allocFunction is the number of gc.alloc, behind that of the collector's first function.
const allocFunction = 1

// header is that of a thing with the tag 0.
func header(kind, length int64) int64 { return 1 | kind<<1 | length<<lengthAt }

// writer writes a function.
type writer struct {
	*build.Builder
	base, gc         int
	zero, one, eight build.Reg
}

// numbers sets the registers of the numbers that most functions need. No register outlives a call in a strict process: they are
// set again behind each one.
func (w *writer) numbers() { w.zero, w.one, w.eight = w.Const(0), w.Const(1), w.Const(wordBytes) }

// call is what one of the functions here answers.
func (w *writer) call(f int, args ...build.Reg) build.Reg {
	out := w.Call(w.base+f, args...)
	w.numbers()
	return out
}

// alloc is the address of n bytes.
func (w *writer) alloc(n build.Reg) build.Reg {
	out := w.Call(w.gc+allocFunction, n)
	w.numbers()
	return out
}

func (w *writer) tail(f int, args ...build.Reg) { w.Tail(w.base+f, args...) }

// raise has the function raise an exception.
func (w *writer) raise(n int64) { w.tail(raiseFunction, w.Const(n)) }

// up goes through words, the lowest first: at, a register that it sets, is the address of the one that do is handed.
func (w *writer) up(at, end build.Reg, do func(x build.Reg)) {
	w.While(at, api.CondLtu, end, func() {
		do(w.Load(at, 0))
		w.Advance(at, w.eight)
	})
}

// down goes through the words ahead of at, the highest first.
func (w *writer) down(at, start build.Reg, do func(x build.Reg)) {
	w.While(start, api.CondLtu, at, func() {
		w.Reduce(at, w.eight)
		do(w.Load(at, 0))
	})
}

// copied copies words to an address.
func (w *writer) copied(x magnitude, to build.Reg) {
	to = w.Copy(to)
	w.up(w.Copy(x.at), w.end(x), func(word build.Reg) {
		w.Store(to, 0, word)
		w.Advance(to, w.eight)
	})
}

// raise writes the function of that name: its parameter is the number of an exception.
func raise(w *writer) {
	n := w.Keep(w.Param(0))
	at := w.alloc(w.Const(3 * wordBytes))
	w.Store(at, 0, w.Const(header(api.HeapBlock, 2)))
	w.Store(at, wordBytes, w.Add(w.Data(exceptionsAt), w.Shl(w.Kept(n), w.Const(4))))
	w.Store(at, 2*wordBytes, w.Const(small0))
	w.Store(w.Data(raisedAt), 0, at)
	w.Ret(w.zero)
}

package bigrt

import (
	"smithy/api"
	"smithy/build"
)

// Places of cells in the data, where the magnitudes of the first and the second argument lie, if these are small numbers.
const (
	firstCell  = 160
	secondCell = 168
)

// Places of the held words that a function is handed: its arguments, and bytes that it needs for a while.
const (
	firstAt  = 0
	secondAt = 8
	spareAt  = 16
)

// Words and limbs.
const (
	limbBytes = 4
	limbBits  = 32
	allOnes   = -1
)

// writer writes a function.
type writer struct {
	*build.Values
	base int
}

// call is what one of the functions here answers.
func (w *writer) call(f int, args ...build.Reg) build.Reg { return w.Call(w.base+f, args...) }

func (w *writer) tail(f int, args ...build.Reg) { w.Tail(w.base+f, args...) }

// up goes through words, the lowest first: at, a register that it sets, is the address of the one that do is handed.
func (w *writer) up(at, end build.Reg, do func(x build.Reg)) {
	w.While(at, api.CondLtu, end, func() {
		do(w.Load(at, 0))
		w.Advance(at, w.Eight)
	})
}

// down goes through the words ahead of at, the highest first.
func (w *writer) down(at, start build.Reg, do func(x build.Reg)) {
	w.While(start, api.CondLtu, at, func() {
		w.Reduce(at, w.Eight)
		do(w.Load(at, 0))
	})
}

// copied copies words to an address.
func (w *writer) copied(x magnitude, to build.Reg) {
	to = w.Copy(to)
	w.up(w.Copy(x.at), w.end(x), func(word build.Reg) {
		w.Store(to, 0, word)
		w.Advance(to, w.Eight)
	})
}

// raise writes the function of that name: its parameter is the number of an exception.
func raise(w *writer) {
	n := w.Keep(w.Param(0))
	at := w.Alloc(w.Const(3 * build.WordBytes))
	w.Store(at, 0, w.Const(build.Header(api.HeapBlock, 2)))
	w.Store(at, build.WordBytes, w.Add(w.Data(build.ExceptionsAt), w.Shl(w.Kept(n), w.Const(4))))
	w.Store(at, 2*build.WordBytes, w.Const(build.Small0))
	w.Store(w.Data(build.RaisedAt), 0, at)
	w.Ret(w.Zero)
}

package basisrt

import (
	"smithy/api"
	"smithy/build"
)

// Where the words lie in the data that tell where the held words end, and may end; and how many bytes the cells of exceptions have.
const (
	topAt           = 0
	endAt           = 16
	exceptionsBytes = 128
)

// Numbers of the collector's functions, behind that of the first one.
const (
	markFunction = 4
	fullFunction = 5
)

// Bits of a header: the one that is the collector's, and those that tell the kind.
const (
	mark  = 32
	kinds = 30
)

// writer writes a function.
type writer struct {
	*build.Values
	base, gc, data int
}

// call is what one of the functions here answers.
func (w *writer) call(f int, args ...build.Reg) build.Reg { return w.Call(w.base+f, args...) }

func (w *writer) tail(f int, args ...build.Reg) { w.Tail(w.base+f, args...) }

// argument is the value of an argument, ahead of all calls.
func (w *writer) argument(i int) build.Reg { return w.held(w.Param(0), i) }

// held is one of the four held words from p on.
func (w *writer) held(p build.Reg, i int) build.Reg { return w.Load(p, i*build.WordBytes) }

// hold sets it.
func (w *writer) hold(p build.Reg, i int, value build.Reg) { w.Store(p, i*build.WordBytes, value) }

// static is the address of a place of Static's bytes.
func (w *writer) static(place int) build.Reg { return w.Data(w.data + place) }

func (w *writer) answerUnit() { w.Ret(w.static(unitAt)) }

func (w *writer) answerTruth(is build.Reg) { w.Ret(w.Small(is)) }

// behind is the address of what is behind a thing's header.
func (w *writer) behind(thing build.Reg) build.Reg { return w.Add(thing, w.Eight) }

// ifThing does something, if a value is a thing of a kind.
func (w *writer) ifThing(value build.Reg, kind int64, do func()) {
	w.When(w.And(value, w.One), api.CondEq, w.Zero, func() {
		w.When(w.And(w.Load(value, 0), w.Const(kinds)), api.CondEq, w.Const(kind<<1), do)
	})
}

// below is the number that an integer's value is, if that is from 0 on and below a bound; else the function raises an exception.
func (w *writer) below(value, bound build.Reg, exception int64) build.Reg {
	n := w.Sar(value, w.One)
	w.When(w.And(value, w.One), api.CondEq, w.Zero, func() { w.Raise(exception) })
	w.When(bound, api.CondLeu, n, func() { w.Raise(exception) })
	return n
}

// lowest is a word whose lowest byte is an integer modulo 256.
func (w *writer) lowest(value build.Reg) build.Reg {
	out := w.Sar(value, w.One)
	w.When(w.And(value, w.One), api.CondEq, w.Zero, func() {
		w.Into(out, w.Turned(w.Load(value, build.WordBytes), w.Sub(w.Zero, w.Sign(value))))
	})
	return out
}

// bytes is a new thing of n bytes, of which the last word's are 0 and the others have to be laid.
func (w *writer) bytes(kind int64, n build.Reg) build.Reg {
	kept := w.Keep(n)
	out := w.Alloc(w.Add(w.Whole(n), w.Eight))
	n = w.Kept(kept)
	w.Store(w.Add(out, w.Whole(n)), 0, w.Zero) // where the header is laid then, if there are no bytes
	w.lay(out, kind, n)
	return out
}

// lay lays the header of a thing of a length.
func (w *writer) lay(thing build.Reg, kind int64, length build.Reg) {
	w.Store(thing, 0, w.Add(w.Shl(length, w.Const(build.LengthAt)), w.Const(build.Header(kind, 0))))
}

// word is a new thing of a kind and a length that has one word; what that is is asked for once nothing moves any more.
func (w *writer) word(kind, length int64, x func() build.Reg) build.Reg {
	out := w.Alloc(w.Const(2 * build.WordBytes))
	w.Store(out, 0, w.Const(build.Header(kind, length)))
	w.Store(out, build.WordBytes, x())
	return out
}

// copied copies n bytes; it sets both addresses to what is behind them.
func (w *writer) copied(to, from, n build.Reg) {
	end := w.Add(from, n)
	last := w.Sub(end, w.Eight)
	w.While(from, api.CondLeu, last, func() {
		w.Store(to, 0, w.Load(from, 0))
		w.Advance(to, w.Eight)
		w.Advance(from, w.Eight)
	})
	w.While(from, api.CondLtu, end, func() {
		w.StoreByte(to, w.LoadByte(from))
		w.Advance(to, w.One)
		w.Advance(from, w.One)
	})
}

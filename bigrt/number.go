package bigrt

import (
	"smithy/api"
	"smithy/build"
)

const (
	mostBytes = api.MaxLimbs * limbBytes // of an integer that is answered
	smallEnd  = 1 << 62                  // the least number that is no small one
)

// magnitude is words in memory, the lowest first: where they lie, and how many bytes they have.
type magnitude struct{ at, size build.Reg }

// end is the address behind the last word.
func (w *writer) end(x magnitude) build.Reg { return w.Add(x.at, x.size) }

// magnitude is a value's. It has no word that is 0 at its end; so 0 has none at all.
func (w *writer) magnitude(value build.Reg, cell int) magnitude {
	at, size := w.Data(cell), w.Const(0)
	w.Either(w.And(value, w.One), api.CondEq, w.Zero, func() {
		w.Into(at, w.Add(value, w.Eight))
		w.Into(size, w.Whole(w.Length(value)))
	}, func() {
		x := w.abs(w.Sar(value, w.One))
		w.Store(at, 0, x)
		w.Into(size, w.Mul(w.Truth(x, api.CondNe, w.Zero), w.Eight))
	})
	return magnitude{at, size}
}

// magnitudes are those of the two arguments.
func (w *writer) magnitudes(p build.Reg) (x, y magnitude) {
	return w.magnitude(w.Load(p, firstAt), firstCell), w.magnitude(w.Load(p, secondAt), secondCell)
}

// bothSmall does something, if both values are small numbers.
func (w *writer) bothSmall(a, b build.Reg, do func()) {
	w.When(w.And(w.And(a, b), w.One), api.CondNe, w.Zero, do)
}

// abs is the magnitude of a number.
func (w *writer) abs(n build.Reg) build.Reg {
	mask := w.Sar(n, w.Const(build.WordBits-1))
	return w.Turned(n, mask)
}

// single writes a function that answers the integer whose magnitude x is one word; its sign is 1, if it is below 0.
func single(w *writer) {
	x, sign := w.Param(0), w.Param(1)
	w.When(x, api.CondLtu, w.Add(w.Const(smallEnd), sign), func() { // there is one more below 0
		w.Ret(w.Small(w.Turned(x, w.Sub(w.Zero, sign))))
	})
	kept := w.Keep(x)
	at := w.call(roomFunction, w.Eight, x, sign)
	w.Store(at, build.WordBytes, w.Kept(kept))
	w.Ret(at)
}

// room writes a function that answers the address of a new HeapBig for words of so many bytes, or 0, having raised Size. It needs to
// know the last word, which is not 0.
func room(w *writer) {
	size, last, sign := w.Param(0), w.Param(1), w.Param(2)
	bytes := w.Copy(size)
	w.When(w.Shr(last, w.Const(limbBits)), api.CondEq, w.Zero, func() { w.Reduce(bytes, w.Const(limbBytes)) })
	w.When(w.Const(mostBytes), api.CondLtu, bytes, func() { w.Raise(api.ExnSize) })
	head := w.Add(w.Shl(bytes, w.Const(build.LengthAt)), w.Shl(sign, w.Const(build.TagAt)))
	kept := w.Keep(w.Add(head, w.Const(build.Header(api.HeapBig, 0))))
	at := w.Alloc(w.Add(size, w.Eight))
	w.Store(at, 0, w.Kept(kept))
	w.Ret(at)
}

// spare writes a function that has the third held word hold so many bytes, of which 8 is a divisor; it answers where they begin.
func spare(w *writer) {
	p, size := w.Keep(w.Param(0)), w.Keep(w.Param(1))
	at := w.Alloc(w.Add(w.Param(1), w.Eight))
	w.Store(at, 0, w.Add(w.Shl(w.Kept(size), w.Const(build.LengthAt)), w.Const(build.Header(api.HeapBytes, 0))))
	w.Store(w.Kept(p), spareAt, at)
	w.Ret(w.Add(at, w.Eight))
}

// spared is where these bytes begin, spareEnd where they end.
func (w *writer) spared(p build.Reg) build.Reg { return w.Add(w.Load(p, spareAt), w.Eight) }

func (w *writer) spareEnd(p build.Reg) build.Reg {
	return w.Add(w.spared(p), w.Length(w.Load(p, spareAt)))
}

// take writes a function that answers the integer of a sign whose magnitude are words of these bytes: where they begin there, and how
// many bytes they have, words of 0 at their end, too. The arguments are let go: there may be little room.
func take(w *writer) {
	p, from, size, sign := w.Param(0), w.Param(1), w.Param(2), w.Param(3)
	at, last := w.Add(w.spared(p), from), w.Const(0)
	w.Loop(func(leave func()) {
		w.When(size, api.CondEq, w.Zero, leave)
		w.Into(last, w.Load(w.Add(at, size), -build.WordBytes))
		w.When(last, api.CondNe, w.Zero, leave)
		w.Reduce(size, w.Eight)
	})
	w.When(size, api.CondLeu, w.Eight, func() { w.tail(wordFunction, last, sign) })
	none := w.Const(build.Small0)
	w.Store(p, firstAt, none)
	w.Store(p, secondAt, none)
	keptP, keptFrom, keptSize := w.Keep(p), w.Keep(from), w.Keep(size)
	out := w.call(roomFunction, size, last, sign)
	w.When(out, api.CondNe, w.Zero, func() {
		words := magnitude{w.Add(w.spared(w.Kept(keptP)), w.Kept(keptFrom)), w.Kept(keptSize)}
		w.copied(words, w.Add(out, w.Eight))
	})
	w.Ret(out)
}

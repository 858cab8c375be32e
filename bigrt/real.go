package bigrt

import (
	"smithy/api"
	"smithy/build"
)

// How a real's bits stand: a sign, an exponent, and a fraction, ahead of which a bit 1 is not written.
const (
	fractionBits = 52
	exponents    = 1<<11 - 1 // the greatest one: that of infinities and NaNs
	unitExponent = 1023      // that of 1.0
	restBits     = build.WordBits - fractionBits - 1
	infinity     = exponents << fractionBits
	theNaN       = infinity | 1<<(fractionBits-1)
	realWords    = 16 // so many words have the greatest integers that become reals
	mostReal     = realWords * build.WordBytes
)

// box writes a function that answers a new real of these bits.
func box(w *writer) {
	kept := w.Keep(w.Param(0))
	at := w.Alloc(w.Const(2 * build.WordBytes))
	w.Store(at, 0, w.Const(build.Header(api.HeapReal, build.WordBytes)))
	w.Store(at, build.WordBytes, w.Kept(kept))
	w.Ret(at)
}

// nearest writes int.real.
func nearest(w *writer) {
	a := w.Load(w.Param(0), firstAt)
	w.When(w.And(a, w.One), api.CondNe, w.Zero, func() { w.tail(boxFunction, w.RealOf(w.Sar(a, w.One))) })
	x, sign := w.magnitude(a, firstCell), w.Shl(w.Sign(a), w.Const(build.WordBits-1))
	w.When(w.Const(mostReal), api.CondLtu, x.size, func() { w.tail(boxFunction, w.Or(sign, w.Const(infinity))) })
	w.tail(boxFunction, w.Or(sign, w.rounded(x)))
}

// rounded is the bits of the real that is nearest to a magnitude: of its highest 64 bits the lowest one is 1, if one is that lies below
// them.
func (w *writer) rounded(x magnitude) build.Reg {
	end, below := w.end(x), w.Const(0)
	w.When(w.Eight, api.CondLtu, x.size, func() { w.Into(below, w.Load(end, -2*build.WordBytes)) })
	top := w.topmost(w.Load(end, -build.WordBytes), below)
	rest := w.Shl(below, top.shift)
	w.up(w.Copy(x.at), w.Sub(end, w.Const(2*build.WordBytes)), func(word build.Reg) { w.Into(rest, w.Or(rest, word)) })
	highest := w.Or(top.word, w.Truth(rest, api.CondNe, w.Zero))

	whole := w.Shr(highest, w.Const(restBits))
	cut := w.And(highest, w.Const(1<<restBits-1))
	up := w.Truth(w.Const(1<<(restBits-1)), api.CondLtu, w.Add(cut, w.And(whole, w.One))) // of two the even one
	bits := w.Sub(w.Shl(x.size, w.Const(3)), top.shift)
	exponent := w.Add(bits, w.Const(unitExponent-2)) // the highest bit of what is added below is 1 more
	return w.Add(w.Shl(exponent, w.Const(fractionBits)), w.Add(whole, up))
}

// bitsOf writes real.bits.
func bitsOf(w *writer) {
	x := w.Load(w.Load(w.Param(0), firstAt), build.WordBytes)
	positive := w.Shr(w.Shl(x, w.One), w.One)
	w.When(w.Const(infinity), api.CondLtu, positive, func() { w.Move(x, w.Const(theNaN)) })
	w.tail(wordFunction, x, w.Zero)
}

// floor writes real.floor.
func floor(w *writer) {
	p := w.Param(0)
	x := w.Load(w.Load(p, firstAt), build.WordBytes)
	sign := w.Shr(x, w.Const(build.WordBits-1))
	exponent := w.And(w.Shr(x, w.Const(fractionBits)), w.Const(exponents))
	w.When(exponent, api.CondEq, w.Const(exponents), func() { w.Raise(api.ExnDomain) })
	w.When(exponent, api.CondLtu, w.Const(unitExponent), func() { // between -1 and 1
		below := w.And(sign, w.Truth(w.Shl(x, w.One), api.CondNe, w.Zero))
		w.tail(wordFunction, below, sign)
	})
	whole := w.Or(w.And(x, w.Const(1<<fractionBits-1)), w.Const(1<<fractionBits))
	unit := w.Const(unitExponent + fractionBits) // that of reals whose last bit says 1
	w.When(exponent, api.CondLtu, unit, func() {
		by := w.Sub(unit, exponent)
		out := w.Shr(whole, by)
		w.Advance(out, w.And(sign, w.Truth(w.Shl(out, by), api.CondNe, whole)))
		w.tail(wordFunction, out, sign)
	})
	w.moved(p, whole, w.Sub(exponent, unit), sign)
}

// moved answers the integer of a sign whose magnitude is a word, moved to the left: it lies in two words, behind some that are 0.
func (w *writer) moved(p, whole, by, sign build.Reg) {
	noughts := func(by build.Reg) build.Reg { return w.And(w.Shr(by, w.Const(3)), w.Const(build.WholeWords)) }
	keptP, keptWhole, keptBy, keptSign := w.Keep(p), w.Keep(whole), w.Keep(by), w.Keep(sign)
	at := w.call(spareFunction, p, w.Add(noughts(by), w.Const(2*build.WordBytes)))
	p, whole, by = w.Kept(keptP), w.Kept(keptWhole), w.Kept(keptBy)
	size := noughts(by)
	w.clear(magnitude{at, size})
	w.Advance(at, size)
	w.Into(by, w.And(by, w.Const(build.WordBits-1)))
	w.Store(at, 0, w.Shl(whole, by))
	w.Store(at, build.WordBytes, w.Shr(w.Shr(whole, w.One), w.Sub(w.Const(build.WordBits-1), by)))
	w.tail(takeFunction, p, w.Zero, w.Add(size, w.Const(2*build.WordBytes)), w.Kept(keptSign))
}

package bigrt

import (
	"smithy/api"
	"smithy/build"
)

// mostFactors is how many bytes the words of two factors have together at most, if their product may be answered: with one word more
// the product has more than MaxLimbs limbs, though the highest words of both be 1.
const mostFactors = mostBytes + build.WordBytes

// times writes int.mul.
func times(w *writer) {
	p := w.Param(0)
	a, b := w.Load(p, firstAt), w.Load(p, secondAt)
	w.bothSmall(a, b, func() {
		x, y := w.abs(w.Sar(a, w.One)), w.abs(w.Sar(b, w.One))
		w.When(w.High(x, y), api.CondEq, w.Zero, func() {
			w.tail(wordFunction, w.Mul(x, y), w.Shr(w.Xor(a, b), w.Const(build.WordBits-1)))
		})
	})
	x, y := w.magnitudes(p)
	w.When(x.size, api.CondEq, w.Zero, func() { w.Ret(w.Const(build.Small0)) })
	w.When(y.size, api.CondEq, w.Zero, func() { w.Ret(w.Const(build.Small0)) })
	size := w.Add(x.size, y.size)
	w.When(w.Const(mostFactors), api.CondLtu, size, func() { w.Raise(api.ExnSize) })
	keptP, keptSize := w.Keep(p), w.Keep(size)
	at := w.call(spareFunction, p, size)
	p = w.Kept(keptP)
	w.multiply(p, at)
	sign := w.Xor(w.Sign(w.Load(p, firstAt)), w.Sign(w.Load(p, secondAt)))
	w.tail(takeFunction, p, w.Zero, w.Kept(keptSize), sign)
}

// multiply lays the product of the arguments' magnitudes from at on, a register that it sets.
func (w *writer) multiply(p, at build.Reg) {
	x, y := w.magnitudes(p)
	w.clear(magnitude{at, y.size})
	w.up(w.Copy(x.at), w.end(x), func(factor build.Reg) {
		carry := w.products(factor, y, at, func(u, product build.Reg) (build.Reg, build.Reg) {
			sum := w.Add(u, product)
			return sum, w.Truth(sum, api.CondLtu, u)
		})
		w.Store(w.Add(at, y.size), 0, carry)
		w.Advance(at, w.Eight)
	})
}

// clear sets words to 0.
func (w *writer) clear(x magnitude) {
	at := w.Copy(x.at)
	w.While(at, api.CondLtu, w.end(x), func() {
		w.Store(at, 0, w.Zero)
		w.Advance(at, w.Eight)
	})
}

// products brings the words of y, times a factor, to those that lie from an address on, one by one: with tells what becomes of a word
// and what is brought to it, and how much of it goes on to the next one. What goes on behind the last word is the answer.
func (w *writer) products(factor build.Reg, y magnitude, at build.Reg, with func(u, product build.Reg) (build.Reg, build.Reg)) build.Reg {
	carry, to := w.Const(0), w.Copy(at)
	w.up(w.Copy(y.at), w.end(y), func(v build.Reg) {
		low, high := w.Mul(factor, v), w.High(factor, v)
		w.Advance(low, carry)
		w.Advance(high, w.Truth(low, api.CondLtu, carry))
		out, over := with(w.Load(to, 0), low)
		w.Store(to, 0, out)
		w.Into(carry, w.Add(high, over))
		w.Advance(to, w.Eight)
	})
	return carry
}

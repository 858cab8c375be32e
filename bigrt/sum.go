package bigrt

import (
	"smithy/api"
	"smithy/build"
)

// plus writes int.add and int.sub: what reckons with small numbers, and whether the second argument is turned.
func plus(w *writer, reckon func(a, b build.Reg) build.Reg, turned int64) {
	p := w.Param(0)
	a, b := w.Load(p, firstAt), w.Load(p, secondAt)
	w.bothSmall(a, b, func() {
		n := reckon(w.Sar(a, w.One), w.Sar(b, w.One))
		out := w.Small(n)
		w.When(w.Sar(out, w.One), api.CondEq, n, func() { w.Ret(out) })
	})
	w.tail(sumFunction, p, w.Const(turned))
}

// opposite writes int.neg: it is 0 less the argument.
func opposite(w *writer) {
	p := w.Param(0)
	w.Store(p, secondAt, w.Load(p, firstAt))
	w.Store(p, firstAt, w.Const(build.Small0))
	w.tail(subFunction, p)
}

// sum writes a function that answers the sum of the arguments, of which the second one is turned, if its other parameter is 1. The
// magnitudes are added, or one is taken from the other one, which must be the greater one then: it is held first.
func sum(w *writer) {
	kept, keptTurned := w.Keep(w.Param(0)), w.Keep(w.Param(1))
	order := w.call(compareFunction, w.Load(w.Param(0), firstAt), w.Load(w.Param(0), secondAt))
	p := w.Kept(kept)
	a, b := w.Load(p, firstAt), w.Load(p, secondAt)
	sign, other := w.Sign(a), w.Xor(w.Sign(b), w.Kept(keptTurned))
	mask := w.Sub(w.Zero, w.Xor(sign, other))
	w.When(order, api.CondLt, w.Zero, func() {
		w.Store(p, firstAt, b)
		w.Store(p, secondAt, a)
		w.Move(sign, other)
	})
	w.tail(joinFunction, p, mask, sign)
}

// join writes a function that answers the integer of a sign whose magnitude is the sum of those of the arguments, or, the mask being
// -1, the difference. They are added twice: nobody knows ahead of it how many words there will be.
func join(w *writer) {
	p, mask, sign := w.Param(0), w.Param(1), w.Param(2)
	x, y := w.magnitudes(p)
	count, size, last := w.Const(0), w.Const(0), w.Const(0)
	w.sums(x, y, mask, func(sum build.Reg) {
		w.Advance(count, w.Eight)
		w.When(sum, api.CondNe, w.Zero, func() {
			w.Move(size, count)
			w.Move(last, sum)
		})
	})
	w.When(size, api.CondLeu, w.Eight, func() { w.tail(wordFunction, last, sign) })
	keptP, keptMask, keptSize := w.Keep(p), w.Keep(mask), w.Keep(size)
	out := w.call(roomFunction, size, last, sign)
	w.When(out, api.CondNe, w.Zero, func() {
		x, y := w.magnitudes(w.Kept(keptP))
		at := w.Add(out, w.Eight)
		end := w.Add(at, w.Kept(keptSize))
		w.sums(x, y, w.Kept(keptMask), func(sum build.Reg) {
			w.When(at, api.CondLtu, end, func() { // words of 0 behind the last one have no room
				w.Store(at, 0, sum)
				w.Advance(at, w.Eight)
			})
		})
	})
	w.Ret(out)
}

// sums tells the words of x + y, with the carry behind the last one of x; or, the mask being -1, of x - y. Neither has y more words
// than x, nor is it greater then.
func (w *writer) sums(x, y magnitude, mask build.Reg, each func(sum build.Reg)) {
	carry := w.added(x, y, mask, each)
	each(w.And(carry, w.Xor(mask, w.Const(allOnes))))
}

// added tells the words of x + y but for the carry, which it answers. What is taken away is added as the words' opposites, and 1.
func (w *writer) added(x, y magnitude, mask build.Reg, each func(sum build.Reg)) build.Reg {
	carry, from := w.And(mask, w.One), w.Copy(x.at)
	next := func(v build.Reg) {
		u := w.Load(from, 0)
		sum := w.Add(u, v)
		over := w.Truth(sum, api.CondLtu, u)
		w.Into(sum, w.Add(sum, carry))
		w.Into(carry, w.Add(over, w.Truth(sum, api.CondLtu, carry)))
		each(sum)
		w.Advance(from, w.Eight)
	}
	w.up(w.Copy(y.at), w.end(y), func(v build.Reg) { next(w.Xor(v, mask)) })
	w.While(from, api.CondLtu, w.end(x), func() { next(mask) })
	return carry
}

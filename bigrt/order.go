package bigrt

import (
	"smithy/api"
	"smithy/build"
)

// ordered writes a function of two integers that answers the truth of a condition.
func ordered(w *writer, cond int) {
	a, b := w.Load(w.Param(0), firstAt), w.Load(w.Param(0), secondAt)
	w.bothSmall(a, b, func() { w.Ret(w.Small(w.Truth(a, cond, b))) })
	w.Ret(w.Small(w.Truth(w.call(orderFunction, a, b), cond, w.Const(0))))
}

// order writes a function that answers -1, 0 or 1, as its first value is below, the same as, or above its second one.
func order(w *writer) {
	a, b := w.Param(0), w.Param(1)
	sign, other := w.Sign(a), w.Sign(b)
	w.When(sign, api.CondNe, other, func() { w.Ret(w.Sub(other, sign)) })
	kept := w.Keep(w.Sub(w.Zero, sign))
	out := w.call(compareFunction, a, b)
	w.Ret(w.Turned(out, w.Kept(kept)))
}

// compare writes a function that does the same with magnitudes of values.
func compare(w *writer) {
	x, y := w.magnitude(w.Param(0), firstCell), w.magnitude(w.Param(1), secondCell)
	w.When(x.size, api.CondLtu, y.size, func() { w.Ret(w.Const(-1)) })
	w.When(y.size, api.CondLtu, x.size, func() { w.Ret(w.One) })
	other := w.end(y)
	w.down(w.end(x), x.at, func(u build.Reg) {
		w.Reduce(other, w.Eight)
		v := w.Load(other, 0)
		w.When(u, api.CondLtu, v, func() { w.Ret(w.Const(-1)) })
		w.When(v, api.CondLtu, u, func() { w.Ret(w.One) })
	})
	w.Ret(w.Zero)
}

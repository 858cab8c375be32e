package bigrt

import (
	"smithy/api"
	"smithy/build"
)

// divide writes int.div, or int.mod, if rest is 1.
func divide(w *writer, rest int64) {
	p := w.Param(0)
	a, b := w.Load(p, firstAt), w.Load(p, secondAt)
	w.When(b, api.CondEq, w.Const(build.Small0), func() { w.Raise(api.ExnDiv) })
	w.bothSmall(a, b, func() {
		x, y := w.abs(w.Sar(a, w.One)), w.abs(w.Sar(b, w.One))
		top := w.Const(build.WordBits - 1)
		left, unlike := w.Rem(x, y), w.Shr(w.Xor(a, b), top)
		more := w.And(unlike, w.Truth(left, api.CondNe, w.Zero)) // 1, if to cut downwards is not to cut towards 0
		if rest == 0 {
			w.tail(wordFunction, w.Add(w.Div(x, y), more), unlike)
			return
		}
		w.When(more, api.CondNe, w.Zero, func() { w.Into(left, w.Sub(y, left)) })
		w.tail(wordFunction, left, w.Shr(b, top))
	})
	w.tail(quotientFunction, p, w.Const(rest))
}

// quotient writes a function that does so with any integers. Spare bytes are the first argument's words and two of 0, at first; then
// the rest in as many words as the second argument has, and the quotient behind it.
func quotient(w *writer) {
	keptP, keptRest := w.Keep(w.Param(0)), w.Keep(w.Param(1))
	order := w.call(compareFunction, w.Load(w.Param(0), firstAt), w.Load(w.Param(0), secondAt))
	p, rest := w.Kept(keptP), w.Kept(keptRest)
	w.When(order, api.CondLt, w.Zero, func() { w.tail(underFunction, p, rest) })
	x, y := w.magnitudes(p)
	w.Either(rest, api.CondEq, w.Zero, func() {
		w.When(w.Const(mostBytes), api.CondLtu, w.Sub(x.size, y.size), func() { w.Raise(api.ExnSize) })
	}, func() {
		w.When(y.size, api.CondEq, w.Eight, func() { w.tail(restFunction, p) })
	})
	at := w.call(spareFunction, p, w.Add(x.size, w.Const(2*build.WordBytes)))
	p, rest = w.Kept(keptP), w.Kept(keptRest)
	x, y = w.magnitudes(p)
	w.copied(x, at)
	w.Store(w.Add(at, x.size), 0, w.Zero)
	w.Store(w.Add(at, x.size), build.WordBytes, w.Zero)
	w.When(y.size, api.CondEq, w.Eight, func() { w.tail(shortFunction, p, rest) })
	w.tail(longFunction, p, rest)
}

// under writes a function that does so, if the first magnitude is below the second one: the quotient is 0 or -1.
func under(w *writer) {
	p, rest := w.Param(0), w.Param(1)
	a, none := w.Load(p, firstAt), w.Const(build.Small0)
	alike := w.Truth(w.Sign(a), api.CondEq, w.Sign(w.Load(p, secondAt)))
	w.When(a, api.CondEq, none, func() { w.Move(alike, w.One) })
	w.When(rest, api.CondEq, w.Zero, func() { w.Ret(w.Small(w.Sub(alike, w.One))) })
	w.When(alike, api.CondNe, w.Zero, func() { w.Store(p, secondAt, none) })
	w.tail(sumFunction, p, w.Zero)
}

// short writes what divides the spare bytes' words by a second argument of one word.
func short(w *writer) {
	p := w.Param(0)
	x, y := w.magnitudes(p)
	start := w.spared(p)
	rest := w.shortly(magnitude{start, x.size}, y, func(at, q build.Reg) { w.Store(at, build.WordBytes, q) })
	w.Store(start, 0, rest)
	w.tail(downFunction, p, w.Param(1))
}

// onlyRest writes a function that answers the rest then, for which no quotient must lie anywhere.
func onlyRest(w *writer) {
	p := w.Param(0)
	x, y := w.magnitudes(p)
	rest := w.shortly(x, y, func(_, _ build.Reg) {})
	sign := w.Sign(w.Load(p, secondAt))
	unlike := w.Xor(w.Sign(w.Load(p, firstAt)), sign)
	w.When(w.And(unlike, w.Truth(rest, api.CondNe, w.Zero)), api.CondNe, w.Zero, func() {
		w.Into(rest, w.Sub(w.Load(y.at, 0), rest))
	})
	w.tail(wordFunction, rest, sign)
}

// shortly tells the words of the quotient of x and a y of one word, the highest first, with the address of x's word; it answers what is
// left. While it goes on that is moved to the left as the divisor is.
func (w *writer) shortly(x, y magnitude, each func(at, q build.Reg)) build.Reg {
	by := w.newDivisor(w.Load(y.at, 0), w.Zero)
	rest, at := w.Const(0), w.end(x)
	w.down(at, x.at, func(word build.Reg) {
		w.Into(rest, w.Or(rest, w.brought(word, by.topmost)))
		each(at, w.divided(rest, w.Shl(word, by.shift), by))
	})
	return w.Shr(rest, by.shift)
}

// long writes what divides them by one of several words, as one does by hand: each word of the quotient is guessed by the highest words,
// and is at most 2 too great. It takes the place of the word that it makes 0.
func long(w *writer) {
	p := w.Param(0)
	x, y := w.magnitudes(p)
	top := w.end(y)
	by := w.newDivisor(w.Load(top, -build.WordBytes), w.Load(top, -2*build.WordBytes))
	start := w.spared(p)
	at := w.Add(start, w.Add(w.Sub(x.size, y.size), w.Eight))
	w.While(start, api.CondLtu, at, func() {
		w.Reduce(at, w.Eight)
		head := w.Add(at, y.size)
		left := w.Load(head, 0)
		q := w.guessed(left, w.Load(head, -build.WordBytes), w.Load(head, -2*build.WordBytes), by)
		carry := w.products(q, y, at, func(u, product build.Reg) (build.Reg, build.Reg) {
			return w.Sub(u, product), w.Truth(u, api.CondLtu, product)
		})
		w.Reduce(left, carry)
		w.While(left, api.CondNe, w.Zero, func() { // it is below 0
			w.Advance(left, w.addedTo(at, y))
			w.Reduce(q, w.One)
		})
		w.Store(head, 0, q)
	})
	w.tail(downFunction, p, w.Param(1))
}

// guessed is the quotient of the highest words, u the highest of all, by a divisor; the greatest word, if it would be above that.
func (w *writer) guessed(u, v, x build.Reg, by divisor) build.Reg {
	high := w.Or(w.Shl(u, by.shift), w.brought(v, by.topmost))
	low := w.Or(w.Shl(v, by.shift), w.brought(x, by.topmost))
	q := w.Const(allOnes)
	w.When(high, api.CondLtu, by.word, func() { w.Move(q, w.divided(high, low, by)) })
	return q
}

// addedTo adds y to as many words from an address on, and answers the carry.
func (w *writer) addedTo(at build.Reg, y magnitude) build.Reg {
	to := w.Copy(at)
	return w.added(magnitude{at, y.size}, y, w.Zero, func(sum build.Reg) {
		w.Store(to, 0, sum)
		w.Advance(to, w.Eight)
	})
}

// downwards writes what cuts the quotient downwards, and answers it, or the rest.
func downwards(w *writer) {
	p, rest := w.Param(0), w.Param(1)
	x, y := w.magnitudes(p)
	sign := w.Sign(w.Load(p, secondAt))
	unlike := w.Xor(w.Sign(w.Load(p, firstAt)), sign)
	start := w.spared(p)
	some := w.Const(0)
	w.up(w.Copy(start), w.Add(start, y.size), func(word build.Reg) { w.Into(some, w.Or(some, word)) })
	w.When(w.And(unlike, w.Truth(some, api.CondNe, w.Zero)), api.CondNe, w.Zero, func() {
		w.Either(rest, api.CondEq, w.Zero, func() { w.increase(w.Add(start, y.size)) }, func() { w.complete(start, y) })
	})
	w.When(rest, api.CondEq, w.Zero, func() {
		size := w.Add(w.Sub(x.size, y.size), w.Const(2*build.WordBytes))
		w.tail(takeFunction, p, y.size, size, unlike)
	})
	w.tail(takeFunction, p, w.Zero, y.size, sign)
}

// increase adds 1 to the words from an address on.
func (w *writer) increase(at build.Reg) {
	at = w.Copy(at)
	w.Loop(func(leave func()) {
		word := w.Add(w.Load(at, 0), w.One)
		w.Store(at, 0, word)
		w.When(word, api.CondNe, w.Zero, leave)
		w.Advance(at, w.Eight)
	})
}

// complete sets the words from an address on to y less them.
func (w *writer) complete(at build.Reg, y magnitude) {
	to := w.Copy(at)
	w.added(y, magnitude{at, y.size}, w.Const(allOnes), func(sum build.Reg) {
		w.Store(to, 0, sum)
		w.Advance(to, w.Eight)
	})
}

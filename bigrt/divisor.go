package bigrt

import (
	"smithy/api"
	"smithy/build"
)

// topmost is the highest 64 bits of a number, the highest of which is set: its highest word, moved to the left by shift bits, with what
// comes into it from the word below. back is 63 less shift.
type topmost struct{ word, shift, back build.Reg }

// topmost is that of a number by its highest word, which is not 0, and the word below.
func (w *writer) topmost(top, below build.Reg) topmost {
	t := topmost{word: w.Copy(top), shift: w.Const(0)}
	for step := int64(build.WordBits / 2); step > 0; step /= 2 {
		w.When(w.Shr(t.word, w.Const(build.WordBits-step)), api.CondEq, w.Zero, func() {
			n := w.Const(step)
			w.Into(t.word, w.Shl(t.word, n))
			w.Advance(t.shift, n)
		})
	}
	t.back = w.Sub(w.Const(build.WordBits-1), t.shift)
	w.Into(t.word, w.Or(t.word, w.brought(below, t)))
	return t
}

// brought are the bits that leave a word when it is moved to the left as that one was. It takes two moves, since none is by 64 bits.
func (w *writer) brought(x build.Reg, t topmost) build.Reg { return w.Shr(w.Shr(x, w.One), t.back) }

// divisor is what two words are divided by, with its inverse: (2^128 - 1) / word, less 2^64. By it quotients are guessed without a
// division.
type divisor struct {
	topmost
	inverse build.Reg
}

func (w *writer) newDivisor(top, below build.Reg) divisor {
	t := w.topmost(top, below)
	return divisor{t, w.inverse(t.word)}
}

// inverse is that of a divisor: 2^64 - 1 - word and a word of ones behind it, divided by it, half a word of the quotient at a time.
// Each half is guessed by the divisor's higher half, and is at most 2 too great.
func (w *writer) inverse(word build.Reg) build.Reg {
	half, ones := w.Const(build.WordBits/2), w.Const(1<<(build.WordBits/2)-1)
	high, low := w.Shr(word, half), w.And(word, ones)
	rest, out := w.Xor(word, w.Const(allOnes)), w.Const(0)
	for range 2 {
		q, left := w.Div(rest, high), w.Rem(rest, high)
		for range 2 {
			w.When(left, api.CondLeu, ones, func() {
				w.When(w.Or(w.Shl(left, half), ones), api.CondLtu, w.Mul(q, low), func() {
					w.Reduce(q, w.One)
					w.Advance(left, high)
				})
			})
		}
		w.Into(rest, w.Sub(w.Or(w.Shl(left, half), ones), w.Mul(q, low)))
		w.Into(out, w.Add(w.Shl(out, half), q))
	}
	return out
}

// divided is the quotient of two words by a divisor that is above the higher one of them, rest; it sets rest to what is left. (The guess
// is that of Moeller and Granlund's 'Improved division by invariant integers': it is right, or 1 too great, as the lower word of what
// it is made of tells, or, seldom, 1 too small.)
func (w *writer) divided(rest, x build.Reg, by divisor) build.Reg {
	low, q := w.Mul(by.inverse, rest), w.High(by.inverse, rest)
	w.Advance(low, x)
	w.Advance(q, rest)
	w.Advance(q, w.Truth(low, api.CondLtu, x))
	w.Advance(q, w.One)
	w.Into(rest, w.Sub(x, w.Mul(q, by.word)))
	w.When(low, api.CondLtu, rest, func() {
		w.Reduce(q, w.One)
		w.Advance(rest, by.word)
	})
	w.When(by.word, api.CondLeu, rest, func() {
		w.Advance(q, w.One)
		w.Reduce(rest, by.word)
	})
	return q
}

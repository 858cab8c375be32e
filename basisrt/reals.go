package basisrt

import (
	"smithy/api"
	"smithy/build"
)

// bits are those of an argument that is a real.
func (w *writer) bits(i int) build.Reg { return w.Load(w.argument(i), build.WordBytes) }

// answerReal answers a new real of these bits.
func (w *writer) answerReal(bits build.Reg) {
	kept := w.Keep(bits)
	w.Ret(w.word(api.HeapReal, build.WordBytes, func() build.Reg { return w.Kept(kept) }))
}

// negated writes do.rneg.
func negated(w *writer) {
	const sign = -1 << (build.WordBits - 1)
	w.answerReal(w.Xor(w.bits(0), w.Const(sign)))
}

// reckoned writes do.radd and the others that reckon with two reals.
func reckoned(w *writer, how int) { w.answerReal(w.Real(how, w.bits(0), w.bits(1))) }

// compared writes do.rlt and do.rle.
func compared(w *writer, how int) { w.answerTruth(w.Real(how, w.bits(0), w.bits(1))) }

package basisrt

import (
	"smithy/api"
	"smithy/build"
)

// cell writes do.ref.
func cell(w *writer) {
	kept := w.Keep(w.Param(0))
	w.Ret(w.word(api.HeapCell, 1, func() build.Reg { return w.held(w.Kept(kept), 0) }))
}

// setCell writes do.set. Of a cell that is neither the heap's nor an exception's the collector is told nothing: what may be in it
// lies outside of the heap, as it does.
func setCell(w *writer) {
	set := w.argument(0)
	w.Store(set, build.WordBytes, w.argument(1))
	ofHeap := w.Truth(w.Sub(set, w.Const(api.HeapBase)), api.CondLtu, w.Heap())
	exception := w.Truth(w.Sub(set, w.Data(build.ExceptionsAt)), api.CondLtu, w.Const(exceptionsBytes))
	w.When(w.Or(ofHeap, exception), api.CondNe, w.Zero, func() { w.Call(w.gc+markFunction, set) })
	w.answerUnit()
}

// vector writes do.vector.
func vector(w *writer) {
	n := w.Const(0)
	w.elements(w.argument(0), func(build.Reg) { w.Advance(n, w.One) })
	kept, keptN := w.Keep(w.Param(0)), w.Keep(n)
	out := w.Alloc(w.Add(w.Shl(n, w.Const(3)), w.Eight))
	w.lay(out, api.HeapVector, w.Kept(keptN))
	at := w.behind(out)
	w.elements(w.held(w.Kept(kept), 0), func(x build.Reg) {
		w.Store(at, 0, x)
		w.Advance(at, w.Eight)
	})
	w.Ret(out)
}

// elements tells those of a list, a register that it sets. A list that has some is a block of a block of the first and the list of the
// others.
func (w *writer) elements(list build.Reg, do func(x build.Reg)) {
	w.While(list, api.CondNe, w.Const(build.Small0), func() {
		pair := w.Load(list, build.WordBytes)
		do(w.Load(pair, build.WordBytes))
		w.Into(list, w.Load(pair, 2*build.WordBytes))
	})
}

// element writes do.vsub.
func element(w *writer) {
	row := w.argument(0)
	i := w.below(w.argument(1), w.Length(row), api.ExnSubscript)
	w.Ret(w.Load(w.Add(row, w.Mul(i, w.Eight)), build.WordBytes))
}

// noughts writes do.bnew.
func noughts(w *writer) {
	out := w.bytes(api.HeapBytes, w.below(w.argument(0), w.Const(api.MaxString+1), api.ExnSize))
	at := w.behind(out)
	end := w.Add(at, w.Length(out))
	w.While(at, api.CondLtu, end, func() {
		w.Store(at, 0, w.Zero)
		w.Advance(at, w.Eight)
	})
	w.Ret(out)
}

// setByte writes do.bset.
func setByte(w *writer) {
	w.StoreByte(w.place(), w.lowest(w.argument(2)))
	w.answerUnit()
}

package basisrt

import (
	"smithy/api"
	"smithy/build"
)

// cat writes do.cat.
func cat(w *writer) {
	size := w.Add(w.Length(w.argument(0)), w.Length(w.argument(1)))
	w.When(w.Const(api.MaxString), api.CondLtu, size, func() { w.Raise(api.ExnSize) })
	kept := w.Keep(w.Param(0))
	out := w.bytes(api.HeapText, size)
	p, to := w.Kept(kept), w.behind(out)
	for i := range 2 {
		text := w.held(p, i)
		w.copied(to, w.behind(text), w.Length(text))
	}
	w.Ret(out)
}

// length writes do.size, do.vlen and do.blen.
func length(w *writer) { w.Ret(w.Small(w.Length(w.argument(0)))) }

// place is the address of the byte at the place that the second argument says.
func (w *writer) place() build.Reg {
	row := w.argument(0)
	i := w.below(w.argument(1), w.Length(row), api.ExnSubscript)
	return w.Add(w.behind(row), i)
}

// byteAt writes do.ssub and do.bget.
func byteAt(w *writer) { w.Ret(w.Small(w.LoadByte(w.place()))) }

// substring writes do.substring.
func substring(w *writer) {
	more := w.Add(w.Length(w.argument(0)), w.One)
	from := w.below(w.argument(1), more, api.ExnSubscript)
	n := w.below(w.argument(2), w.Sub(more, from), api.ExnSubscript)
	kept, keptFrom := w.Keep(w.Param(0)), w.Keep(from)
	out := w.bytes(api.HeapText, n)
	text := w.held(w.Kept(kept), 0)
	w.copied(w.behind(out), w.Add(w.behind(text), w.Kept(keptFrom)), w.Length(out))
	w.Ret(out)
}

// ordered writes do.slt and do.sle, by a condition of lengths, which tell where all words of the shorter text are those of the other
// one. (If these aren't, its bytes of 0 behind the last one don't matter: what another text has there is above them, as it is above it.)
func ordered(w *writer, cond int) {
	s, t := w.argument(0), w.argument(1)
	m, n := w.Length(s), w.Length(t)
	least := w.Copy(m)
	w.When(n, api.CondLtu, m, func() { w.Move(least, n) })
	s, t = w.behind(s), w.behind(t)
	end := w.Add(s, least)
	w.While(s, api.CondLtu, end, func() {
		x, y := w.Load(s, 0), w.Load(t, 0)
		w.When(x, api.CondNe, y, func() { w.firstByte(x, y) })
		w.Advance(s, w.Eight)
		w.Advance(t, w.Eight)
	})
	w.answerTruth(w.Truth(m, cond, n))
}

// firstByte answers whether x's byte is below y's, where these words are unlike first. It sets both.
func (w *writer) firstByte(x, y build.Reg) {
	all := w.Const(255)
	w.Loop(func(func()) {
		u, v := w.And(x, all), w.And(y, all)
		w.When(u, api.CondNe, v, func() { w.answerTruth(w.Truth(u, api.CondLtu, v)) })
		w.Into(x, w.Shr(x, w.Eight))
		w.Into(y, w.Shr(y, w.Eight))
	})
}

// truth writes what answers a condition of two words: do.clt, do.cle and do.same.
func truth(w *writer, cond int) { w.answerTruth(w.Truth(w.argument(0), cond, w.argument(1))) }

// character writes do.chr.
func character(w *writer) {
	value := w.argument(0)
	w.below(value, w.Const(256), api.ExnChr)
	w.Ret(value)
}

// textOf writes do.str.
func textOf(w *writer) {
	kept := w.Keep(w.Param(0))
	w.Ret(w.word(api.HeapText, 1, func() build.Reg {
		return w.And(w.Shr(w.held(w.Kept(kept), 0), w.One), w.Const(255))
	}))
}

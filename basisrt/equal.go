package basisrt

import (
	"smithy/api"
	"smithy/build"
)

const pairBytes = 2 * build.WordBytes

// pairs is how do.eq is written: the two values that are looked at, and where the pairs end that wait. These lie behind the held words,
// in the room that is left there; nothing moves meanwhile.
type pairs struct {
	*writer
	x, y, top build.Reg
}

// equal writes do.eq.
func equal(w *writer) {
	bottom := w.Load(w.Data(topAt), 0)
	q := pairs{w, w.argument(0), w.argument(1), w.Copy(bottom)}
	w.Loop(func(leave func()) {
		w.When(q.x, api.CondNe, q.y, q.look)
		w.When(q.top, api.CondEq, bottom, leave)
		w.Reduce(q.top, w.Const(pairBytes))
		w.Into(q.x, w.Load(q.top, 0))
		w.Into(q.y, w.Load(q.top, build.WordBytes))
	})
	w.answerTruth(w.One)
}

// unlike answers that they are not the same.
func (q pairs) unlike() { q.answerTruth(q.Zero) }

// look looks at two values that are neither one thing nor one small number.
func (q pairs) look() {
	q.When(q.And(q.Or(q.x, q.y), q.One), api.CondNe, q.Zero, q.unlike)
	all := q.Const(^mark)
	head := q.And(q.Load(q.x, 0), all)
	q.When(head, api.CondNe, q.And(q.Load(q.y, 0), all), q.unlike)
	size, kind := q.Shr(head, q.Const(build.LengthAt)), q.And(head, q.Const(kinds))
	q.Either(q.oneOf(kind, api.HeapBlock, api.HeapVector), api.CondNe, q.Zero, func() { q.wait(size) }, func() {
		q.When(q.oneOf(kind, api.HeapCell, api.HeapBytes), api.CondNe, q.Zero, q.unlike)
		q.compare(size)
	})
}

// oneOf is 1, if a header's kind is one of both, else 0.
func (q pairs) oneOf(kind build.Reg, a, b int64) build.Reg {
	return q.Or(q.Truth(kind, api.CondEq, q.Const(a<<1)), q.Truth(kind, api.CondEq, q.Const(b<<1)))
}

// wait has the pairs of so many values of both wait, the first one last, so that it is looked at next. There must be room for all.
func (q pairs) wait(many build.Reg) {
	room := q.Sub(q.Load(q.Data(endAt), 0), q.top)
	q.When(room, api.CondLtu, q.Shl(many, q.Const(4)), func() { q.Tail(q.gc + fullFunction) })
	size := q.Shl(many, q.Const(3))
	x, y, pair := q.Add(q.x, size), q.Add(q.y, size), q.Const(pairBytes)
	q.While(q.x, api.CondLtu, x, func() {
		q.Store(q.top, 0, q.Load(x, 0))
		q.Store(q.top, build.WordBytes, q.Load(y, 0))
		q.Advance(q.top, pair)
		q.Reduce(x, q.Eight)
		q.Reduce(y, q.Eight)
	})
}

// compare compares the words behind both headers that so many bytes lie in.
func (q pairs) compare(size build.Reg) {
	x, y := q.behind(q.x), q.behind(q.y)
	end := q.Add(x, size)
	q.While(x, api.CondLtu, end, func() {
		q.When(q.Load(x, 0), api.CondNe, q.Load(y, 0), q.unlike)
		q.Advance(x, q.Eight)
		q.Advance(y, q.Eight)
	})
}

package basisrt

import (
	"reflect"
	"slices"

	"smithy/api"
)

// hand holds four words: the arguments, and any values behind them; where they begin. Each other time the arguments are held by other
// words, too. The words that anybody may use hold anything.
func (b *bench) hand(args []any) (p uint64, refs []api.Ref) {
	base := len(b.stack)
	for i, x := range args {
		if j, is := x.(again); is {
			b.push(at(base + int(j)))
		} else {
			b.push(args[i])
		}
	}
	refs = slices.Clone(b.stack[base:])
	if b.calls++; b.calls%2 == 0 {
		for i := range args {
			b.push(at(base + i))
		}
		base += len(args)
	}
	p = b.load(bottomCell) + 8*uint64(base)
	for i := len(args); i < 4; i++ {
		b.push([]any{huge("12345678901234567890"), 1<<62 - 1, at(0), exn(1)}[(b.calls+i)%4])
	}
	for i := range uint64(12) {
		b.store(cellsBase+160+8*i, (12*uint64(b.calls)+i+1)*0x9e3779b97f4a7c15)
	}
	return p, refs
}

// ask calls a primitive's function, and holds all of it against what chapter 10 says: what it answers or raises, what it does to the
// world, to what is held, and to nothing else. What it answers is held, behind what was; nothing is, if it raises. It is told in short.
func (b *bench) ask(name string, args ...any) string {
	b.Helper()
	base := len(b.stack)
	p, refs := b.hand(args)
	before := int64(len(b.things))
	said, inside := "", ""
	if !worldly(name) && !(name == "eq" && (b.stuck || refs[0] == refs[1])) {
		said, inside = b.interpreted(name, refs)
	}
	data := b.allData()
	b.beginCall(p, b.setBy(name, refs))
	want, raises := b.should(name, refs)
	x := b.run("do."+name, p)
	b.endCall()
	if !slices.Equal(b.allData(), data) {
		b.Fatalf("%s: the data is not what it was", name)
	}
	b.toldOf(name, refs)
	words := []uint64{b.load(p), b.load(p + 8), b.load(p + 16), b.load(p + 24)}
	b.popTo(int(p-b.load(bottomCell)) / 8)
	b.wellFormed(words...)
	out := b.came(name, x, want, raises, before)
	if said != "" && (said != out || inside != b.content(refs[0], before)) {
		b.Fatalf("%s: %s, content %.100q; the interpreters say %s, %.100q", name, out, b.content(refs[0], before), said, inside)
	}
	b.worldsAlike(name)
	b.popTo(base)
	if raises == none {
		b.pushWord(x, want)
	}
	return out
}

// came holds what a function has answered, or raised.
func (b *bench) came(name string, x uint64, want api.Ref, raises int, before int64) string {
	b.Helper()
	if raises == none {
		if x == 0 {
			b.Fatalf("%s raised %#x", name, b.load(raisedCell))
		}
		if (x%2 == 1) != (want.Kind == api.RefSmall) || x%2 == 1 && int64(x)>>1 != want.N {
			b.Fatalf("%s answers %#x, wanted %s", name, x, b.told(want, before))
		}
		b.walk(x, want)
		return b.told(want, before)
	}
	if x != 0 {
		b.Fatalf("%s answers %#x, and should raise %d", name, x, raises)
	}
	old := b.raised
	b.raised = model{b, nil}.new(api.Thing{Kind: api.HeapBlock, Refs: []api.Ref{{Kind: api.RefThing, N: int64(raises)}, small(0)}})
	b.walk(1, small(0))
	b.raised = old // which is held by the last of those that are always held
	b.store(raisedCell, b.heldWord(always-1))
	return raisesOf(raises)
}

// setBy is the word that a function sets, beside those that all may; 0, if there is none.
func (b *bench) setBy(name string, refs []api.Ref) uint64 {
	switch name {
	case "set":
		return b.heldOf(refs[0]) + 8
	case "bset":
		if i, is := (model{b, refs}).within(1, len(b.things[refs[0].N].Bytes)); is {
			return b.heldOf(refs[0]) + 8 + uint64(i)&^7
		}
	}
	return 0
}

// heldOf is the address of a thing that is held.
func (b *bench) heldOf(r api.Ref) uint64 { return b.heldWord(slices.Index(b.stack, r)) }

// allData are all bytes of the data that functions may not set, but for those of the collector, and for things there.
func (b *bench) allData() []uint64 {
	var out []uint64
	for i := 0; i < len(b.data)&^7; i += 8 {
		place := cellsBase + uint64(i)
		ofCells := i < b.cells && (i >= 24 && i < 32 || i >= 32 && i < 160 && i%16 == 8 || i >= 160)
		ofStatic := i >= b.static+8 && i < b.static+len(Static())
		if !ofCells && !ofStatic && !b.ofThing(place) {
			out = append(out, b.load(place))
		}
	}
	return out
}

// ofThing tells whether a word is one of a cell or of bytes in the data.
func (b *bench) ofThing(place uint64) bool {
	in := func(n int, words uint64) bool {
		from := b.fixed[b.away[n].N]
		return place > from && place <= from+8*words
	}
	return in(farCell, 1) || in(farBytes, 2)
}

// worldsAlike holds what was done to the world against what was done to the mirror.
func (b *bench) worldsAlike(name string) {
	b.Helper()
	if got, want := b.w.Trace(), b.mirror.Trace(); !reflect.DeepEqual(got, want) {
		b.Fatalf("%s: the trace is %s, wanted %s", name, brief(got), brief(want))
	}
	if !worldly(name) {
		return
	}
	if !reflect.DeepEqual(b.w.Files(), b.mirror.Files()) {
		b.Fatalf("%s: the files are not the same", name)
	}
	w, m := b.w.Copy(), b.mirror.Copy()
	if got, want := w.Line(), m.Line(); got != want {
		b.Fatalf("%s: the next line is %s, wanted %s", name, short(got), short(want))
	}
	for range api.MaxOpen + 4 {
		if got, want := w.SysOpen("more", 577), m.SysOpen("more", 577); got != want {
			b.Fatalf("%s: the next descriptor is %d, wanted %d", name, got, want)
		}
	}
}

// row is a call, and what should come of it.
type row struct {
	name string
	args []any
	want string
}

type v = []any

// rows does calls, one behind the other, and lets go of what they answer.
func (b *bench) rows(l ...row) {
	b.Helper()
	for _, r := range l {
		base := len(b.stack)
		if got := b.ask(r.name, r.args...); got != r.want {
			b.Errorf("%s of %s: %s, wanted %s", r.name, brief(r.args), got, r.want)
		}
		b.popTo(base)
	}
}

package gcrt

import (
	"smithy/api"
	"smithy/build"
)

// widths tells of each kind by how many bits a header's length is moved to the left to be bytes: by 3, if its things have words,
// else by 0. A header's lowest six bits, which are 1, twice the kind, and perhaps the mark, are the place of the two bits.
const (
	ofWords  = 3
	unmarked = ofWords<<(1+2*api.HeapBlock) | ofWords<<(1+2*api.HeapCell) | ofWords<<(1+2*api.HeapVector) | ofWords<<(1+2*api.HeapClosure)
	widths   = unmarked | unmarked<<32
)

// mover writes what moves things out of one half into the other one.
type mover struct {
	*build.Builder
	from, span build.Reg // where the half begins that things are moved out of, and how many bytes it has
	to         build.Reg // where the next thing will lie
	one, word  build.Reg // the numbers 1, and of a word's bytes
}

// major writes gc.major: what the held words are is moved, then, thing by thing, what the values of moved ones are, till no thing
// has come to the others.
func major(b *build.Builder) {
	cells := b.Data(0)
	from, there := b.Load(cells, hereAt), b.Load(cells, thereAt)
	span := b.Sub(b.Load(cells, stopAt), from)
	m := mover{Builder: b, from: from, span: span, to: b.Copy(there), one: b.Const(1), word: b.Const(wordBytes)}
	m.words(b.Load(cells, bottomAt), b.Load(cells, topAt))
	m.words(b.Data(raisedAt), b.Data(exceptionsEndAt)) // headers of cells lie between, and are odd as small numbers are
	m.things(b.Copy(there))
	b.Store(cells, hereAt, there)
	b.Store(cells, thereAt, from)
	b.Store(cells, stopAt, b.Add(there, span))
	b.Store(cells, freeAt, m.to)
	b.Ret(b.Const(done))
}

// things goes through all things that were moved, those with them that are moved meanwhile, from a register on that it sets.
func (m mover) things(thing build.Reg) {
	m.While(thing, api.CondLtu, m.to, func() {
		size, width := m.size(m.Load(thing, 0))
		next := m.Add(thing, size)
		m.When(width, api.CondNe, m.Const(0), func() { // a closure's first word is an address of code: none of the heap
			m.words(m.Add(thing, m.word), next)
		})
		m.Move(thing, next)
	})
}

// words makes each word from at, a register that it sets, to end the new address, if it is that of a thing that moves.
func (m mover) words(at, end build.Reg) {
	m.While(at, api.CondLtu, end, func() {
		value := m.Load(at, 0)
		m.When(m.And(value, m.one), api.CondNe, m.one, func() {
			m.When(m.Sub(value, m.from), api.CondLtu, m.span, func() {
				m.Store(at, 0, m.moved(value))
			})
		})
		m.Advance(at, m.word)
	})
}

// moved is a thing's new address, which stands in its header's place once it has moved: an even word, as no header is.
func (m mover) moved(thing build.Reg) build.Reg {
	head := m.Load(thing, 0)
	m.When(m.And(head, m.one), api.CondEq, m.one, func() {
		m.Move(head, m.copied(thing, head))
		m.Store(thing, 0, head)
	})
	return head
}

// copied is the address of a copy of a thing that has that header.
func (m mover) copied(thing, head build.Reg) build.Reg {
	size, _ := m.size(head)
	out, at, end := m.Copy(m.to), m.Copy(thing), m.Add(m.to, size)
	m.While(m.to, api.CondLtu, end, func() {
		m.Store(m.to, 0, m.Load(at, 0))
		m.Advance(at, m.word)
		m.Advance(m.to, m.word)
	})
	return out
}

// size is how many bytes a thing with that header has; and its width, 0 if it has no words.
func (m mover) size(head build.Reg) (build.Reg, build.Reg) {
	width := m.And(m.Shr(m.Const(widths), head), m.Const(ofWords))
	length := m.Shl(m.Shr(head, m.Const(lengthAt)), width)
	return m.And(m.Add(length, m.Const(2*wordBytes-1)), m.Const(wholeWords)), width
}

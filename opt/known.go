package opt

import (
	"slices"

	"smithy/api"
)

// fact is what is known of a value.
type fact struct {
	same   api.Atom // another atom for it; of Kind 0, if none is known
	sort   byte
	tagged bool // it is the small number tag, or a block of that tag
	tag    int
	some   bool       // it is a small number other than 0
	parts  []api.Atom // a block's first fields, the first values that a closure has captured; of Kind 0 those that are not known
	whole  bool       // these are all; and a closure's function is f
	f      int
}

// noted is how many parts of a value become known by being taken out: what is known of it is made anew for each.
const noted = 16

// memory is what is known at a node.
type memory struct {
	known map[int]fact // of the steady locals
	was   map[int]fact // what was known, where the branch of the node began, of those of which more has been learned since
}

func newMemory() memory { return memory{map[int]fact{}, map[int]fact{}} }

// learn knows from now on something of a local.
func (m *memory) learn(local int, f fact) {
	if !isSteady(local) {
		return
	}
	if _, is := m.was[local]; !is {
		m.was[local] = m.known[local]
	}
	m.known[local] = f
}

// within goes through a branch. What is learned there is forgotten behind it.
func (m *memory) within(branch func() *node) *node {
	about := m.was
	m.was = map[int]fact{}
	n := branch()
	for local, was := range m.was {
		m.known[local] = was
	}
	m.was = about
	return n
}

// atom is what may stand for an atom.
func (m *memory) atom(a api.Atom) api.Atom {
	for isLocal(a) {
		same := m.known[a.V].same
		if same.Kind == 0 {
			break
		}
		a = same
	}
	return a
}

// put puts into atoms' places what may stand for them.
func (m *memory) put(l []api.Atom) {
	for i, a := range l {
		l[i] = m.atom(a)
	}
}

// of is what is known of an atom.
func (m *memory) of(a api.Atom) fact {
	switch a.Kind {
	case api.AtomInt:
		return fact{sort: anInt}
	case api.AtomSmall:
		return fact{sort: aSmall, tagged: true, tag: a.V, some: a.V != 0}
	case api.AtomText:
		return fact{sort: aText}
	case api.AtomReal:
		return fact{sort: aReal}
	case api.AtomExn:
		return fact{sort: aCell}
	}
	if isLocal(a) {
		return m.known[a.V]
	}
	return fact{}
}

// note learns of which sort an atom is.
func (m *memory) note(a api.Atom, sort byte) {
	if f := m.of(a); isLocal(a) && f.sort == 0 && sort != anything && sort != aList {
		f.sort = sort
		m.learn(a.V, f)
	}
}

// notePart learns what the n-th part of an atom is, or, if nobody knows that, that it has one.
func (m *memory) notePart(a api.Atom, sort byte, n int, part api.Atom) {
	m.note(a, sort)
	f := m.of(a)
	if !isLocal(a) || f.sort != sort || n >= noted {
		return
	}
	parts := make([]api.Atom, max(len(f.parts), n+1))
	copy(parts, f.parts)
	if parts[n].Kind == 0 && isPlain(part) {
		parts[n] = part
	}
	f.parts = parts
	m.learn(a.V, f)
}

// answers is what is known of a primitive's answer.
func answers(s sign) fact {
	if s.gives == aUnit {
		return fact{sort: aBlock, tagged: true, whole: true}
	}
	return fact{sort: s.gives}
}

// plainOnes are a value's parts as far as they may be put in elsewhere.
func plainOnes(l []api.Atom) []api.Atom {
	if arePlain(l) {
		return l
	}
	out := slices.Clone(l)
	for i, a := range out {
		if !isPlain(a) {
			out[i] = api.Atom{}
		}
	}
	return out
}

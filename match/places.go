package match

import (
	"slices"

	"smithy/api"
)

// place is where a value is found: under its name, where that is known, or in a field of what another place holds.
type place struct {
	name    string
	of      int // the place whose field it is
	field   int
	isBound bool
	uses    int   // how many times its name was used since it is bound
	fields  []int // the places of its own fields; 0: none as yet
}

// newPlace is the number of a new place, from 1 on.
func (m *maker) newPlace(p place) int {
	m.places = append(m.places, p)
	return len(m.places) - 1
}

// fieldOf is the place of a field of what a place holds.
func (m *maker) fieldOf(at, field int) int {
	for len(m.places[at].fields) <= field {
		m.places[at].fields = append(m.places[at].fields, 0)
	}
	if m.places[at].fields[field] == 0 {
		m.places[at].fields[field] = m.newPlace(place{name: m.newName("in"), of: at, field: field})
	}
	return m.places[at].fields[field]
}

// variable is what a place holds whose name is known.
func (m *maker) variable(at int) api.Core {
	m.places[at].uses++
	return m.node(api.Core{Kind: api.CoreVar, Name: m.places[at].name})
}

// isLasting tells whether the name of a place, where it is known, is nowhere hidden by another one.
func (m *maker) isLasting(at int) bool { return m.binders[m.places[at].name] <= 1 }

// reach lets the name of a place be known, and those of the places that it is found by; and it answers which of them were not
// till then, each behind what it is a field of.
func (m *maker) reach(at int) []int {
	var reached []int
	for !m.places[at].isBound {
		m.places[at].isBound = true
		reached = append(reached, at)
		at = m.places[at].of
	}
	slices.Reverse(reached)
	return reached
}

// found is a term within lets of those places that were reached for it and are used in it.
func (m *maker) found(reached []int, c api.Core) api.Core {
	for _, at := range slices.Backward(reached) {
		if m.places[at].uses > 0 {
			from := m.node(api.Core{Kind: api.CoreField, N: m.places[at].field, Kids: []api.Core{m.variable(m.places[at].of)}})
			c = m.let(at, from, c)
		}
		m.places[at].isBound, m.places[at].uses = false, 0
	}
	return c
}

// let is a term within a let of a place that is used in it. What is used once, and first of all, is worked out where it is used.
func (m *maker) let(at int, is, within api.Core) api.Core {
	name := m.places[at].name
	if m.places[at].uses == 1 {
		if first := firstOf(&within); first.Kind == api.CoreVar && first.Name == name {
			*first = is
			m.many--
			return within
		}
	}
	return m.node(api.Core{Kind: api.CoreLet, Name: name, Kids: []api.Core{is, within}})
}

// deepest is how deep firstOf looks.
const deepest = 4

// firstOf is the part of a term that is worked out ahead of all others, or one that this is a part of.
func firstOf(c *api.Core) *api.Core {
	for range deepest {
		switch c.Kind {
		case api.CoreApp, api.CoreBlock, api.CoreField, api.CoreIf, api.CoreLet, api.CorePrim, api.CoreRaise, api.CoreSwitch:
			if len(c.Kids) > 0 {
				c = &c.Kids[0]
			}
		}
	}
	return c
}

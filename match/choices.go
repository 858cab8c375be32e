package match

import (
	"smithy/api"
	"smithy/big"
)

// choice is a term without cases that does what a case does.
func (m *maker) choice(c *api.Core) api.Core {
	of := &c.Kids[0]
	switch {
	case of.Kind == api.CoreBlock && areOfFields(c.Rows, of):
		return m.choiceOfFields(c)
	case of.Kind == api.CoreVar && m.isLasting(m.known[of.Name]):
		return m.chosen(c, m.known[of.Name])
	}
	is := m.term(of)
	at := m.newHolder()
	return m.held(at, is, m.chosen(c, at))
}

// newHolder is a new place whose name is known.
func (m *maker) newHolder() int { return m.newPlace(place{name: m.newName("in"), isBound: true}) }

// held is a term within a let of a place, unless nobody would miss what that holds.
func (m *maker) held(at int, is, within api.Core) api.Core {
	if m.places[at].uses > 0 || !isAtHand(&is) {
		return m.let(at, is, within)
	}
	m.many--
	return within
}

// isAtHand tells whether a term is only one, whose value is there without anything being done.
func isAtHand(c *api.Core) bool {
	switch c.Kind {
	case api.CoreVar, api.CoreInt, api.CoreSmall, api.CoreReal, api.CoreText, api.CoreExn:
		return true
	}
	return false
}

// areOfFields tells whether rows ask about the fields of a block alone.
func areOfFields(rows []api.Row, block *api.Core) bool {
	for i := range rows {
		s := &rows[i].S
		isOpen := s.Kind == api.ShapeBlock && s.Span == 1 && block.N == 0 && len(s.Kids) == len(block.Kids)
		if s.Name != "" || s.Kind != api.ShapeAny && !isOpen {
			return false
		}
	}
	return true
}

// choiceOfFields is what comes of a case that asks about the fields of a block alone, which needn't be made.
func (m *maker) choiceOfFields(c *api.Core) api.Core {
	fields := c.Kids[0].Kids
	places, values := make([]int, len(fields)), make([]api.Core, len(fields))
	for i := range fields {
		if f := &fields[i]; f.Kind == api.CoreVar && m.isLasting(m.known[f.Name]) {
			places[i] = m.known[f.Name]
			continue
		}
		values[i] = m.term(&fields[i])
		places[i] = m.newHolder()
	}
	out := m.chosen(c, m.newPlace(place{fields: places}))
	for i := len(fields) - 1; i >= 0; i-- {
		if values[i].Kind != 0 {
			out = m.held(places[i], values[i], out)
		}
	}
	return out
}

// chosen is what comes of a case where a place holds what it looks at.
func (m *maker) chosen(c *api.Core, at int) api.Core {
	lines := make([]line, len(c.Rows))
	for i := range lines {
		lines[i].e = &c.Rows[i].E
		lines[i].wants = m.wanted(&lines[i], at, &c.Rows[i].S, nil)
	}
	j := &join{then: &tree{kind: treeLeaf, line: &line{e: &c.Kids[1]}}}
	return m.made(&tree{kind: treeJoin, join: j, kids: []*tree{m.decide(lines, j)}})
}

// made is the term of a tree.
func (m *maker) made(t *tree) api.Core {
	switch t.kind {
	case treeLeaf:
		return m.leaf(t.line)
	case treeElse:
		return m.goneOn(t.join)
	case treeJoin:
		return m.joined(t)
	}
	at := t.at
	if t.kind == treeSame {
		at = m.fieldOf(at, 0)
	}
	reached := m.reach(at)
	return m.found(reached, m.test(t, m.variable(at)))
}

// leaf is what comes of a line, with its names.
func (m *maker) leaf(l *line) api.Core {
	var reached []int
	for _, n := range l.names {
		reached = append(reached, m.reach(n.at)...)
	}
	outer := m.declare(l.names)
	c := m.term(l.e)
	m.declare(outer)
	return m.found(reached, c)
}

// goneOn is what comes where a tree goes on with what others go on with, too.
func (m *maker) goneOn(j *join) api.Core {
	if j.name == "" {
		return m.made(j.then)
	}
	f := m.node(api.Core{Kind: api.CoreVar, Name: j.name})
	return m.node(api.Core{Kind: api.CoreApp, Kids: []api.Core{f, m.small(0)}})
}

// joined is the first kid of a tree. What is gone on with more than once is a function, unless it is as short as a call.
func (m *maker) joined(t *tree) api.Core {
	j := t.join
	if j.uses < 2 || m.isShort(j.then) {
		return m.made(t.kids[0])
	}
	f := m.node(api.Core{Kind: api.CoreFn, Name: m.newName("none"), Kids: []api.Core{m.made(j.then)}})
	j.name = m.newName("else")
	return m.node(api.Core{Kind: api.CoreLet, Name: j.name, Kids: []api.Core{f, m.made(t.kids[0])}})
}

// isShort tells whether a tree is a line of few terms, whose names are all known.
func (m *maker) isShort(t *tree) bool {
	if t.kind != treeLeaf {
		return false
	}
	for _, n := range t.line.names {
		if !m.places[n.at].isBound {
			return false
		}
	}
	return countShort(t.line.e) <= mostShort
}

const (
	mostShort = 6  // how many terms a short one has at most
	mostBytes = 16 // a text of so many bytes, an integer of so many limbs is not to stand in several places
)

// countShort is how many terms a short one has; more than it may have, if there is something else in it.
func countShort(c *api.Core) int {
	many := 1
	switch c.Kind {
	case api.CoreVar, api.CoreSmall, api.CoreExn, api.CoreReal, api.CoreApp, api.CoreField, api.CoreRaise, api.CoreBlock, api.CorePrim:
	case api.CoreInt, api.CoreText:
		many += max(len(c.Int.Mag), len(c.Text)) / mostBytes * mostShort
	default:
		many += mostShort
	}
	for i := 0; i < len(c.Kids) && many <= mostShort; i++ {
		many += countShort(&c.Kids[i])
	}
	return many
}

// test is what a tree asks about what a place holds, and what comes of it.
func (m *maker) test(t *tree, holds api.Core) api.Core {
	if t.kind != treeSwitch {
		condition := m.condition(t, holds)
		return m.node(api.Core{Kind: api.CoreIf, Kids: []api.Core{condition, m.made(t.kids[0]), m.made(t.kids[1])}})
	}
	out := m.node(api.Core{Kind: api.CoreSwitch, Kids: []api.Core{holds}})
	for i, kid := range t.kids {
		if i < len(t.kids)-1 {
			out.Tags = append(out.Tags, t.shapes[i].N)
		}
		out.Kids = append(out.Kids, m.made(kid))
	}
	return out
}

// condition is whether what a place holds is as a tree asks.
func (m *maker) condition(t *tree, holds api.Core) api.Core {
	s := t.shapes[0]
	if t.kind == treeSame {
		return m.node(api.Core{Kind: api.CorePrim, Name: "same", Kids: []api.Core{holds, m.variable(m.known[s.Cell])}})
	}
	than := m.node(api.Core{Kind: api.CoreText, Text: s.Text})
	name := "slt"
	if s.Kind == api.ShapeInt {
		than = api.Core{Kind: api.CoreInt, Int: big.Norm(s.Int)}
		name = "lt"
	}
	if t.kind == treeEqual {
		name = "eq"
	}
	return m.node(api.Core{Kind: api.CorePrim, Name: name, Kids: []api.Core{holds, than}})
}

package match

import (
	"slices"
	"strconv"

	"smithy/api"
	"smithy/big"
	"smithy/core"
)

// plain is a term without cases that does what one does that may be.
func plain(c *api.Core) (made api.Core, e api.Errno) {
	defer func() {
		if recover() != nil {
			made, e = api.Core{}, api.ErrCore
		}
	}()
	m := newMaker(c)
	made = m.term(c)
	if core.Check(made) != api.OK {
		panic(tooGreat{})
	}
	return made, api.OK
}

// tooGreat is thrown where a term is made that may not be.
type tooGreat struct{}

// maker makes terms without cases.
type maker struct {
	binders map[string]int // how many times a name is bound in the term that is given, but for those of shapes
	known   map[string]int // the place that a name stands for
	places  []place
	named   int // how many names were made
	many    int // how many terms were made
}

func newMaker(c *api.Core) *maker {
	m := &maker{binders: map[string]int{}, known: map[string]int{}, places: []place{{isBound: true}}}
	m.countBinders(c)
	return m
}

// countBinders counts how many times each name is bound in a term. Names of shapes are not: what is made has none of them.
func (m *maker) countBinders(c *api.Core) {
	for _, name := range bound(c) {
		m.binders[name]++
	}
	for i := range c.Kids {
		m.countBinders(&c.Kids[i])
	}
	for i := range c.Rows {
		m.countBinders(&c.Rows[i].E)
	}
}

// bound are the names that a term binds by itself.
func bound(c *api.Core) []string {
	switch c.Kind {
	case api.CoreFn, api.CoreLet, api.CoreHandle:
		return []string{c.Name}
	case api.CoreRec:
		return c.Names
	}
	return nil
}

// newName is a name that is bound nowhere else.
func (m *maker) newName(like string) string {
	for {
		m.named++
		if name := like + "." + strconv.Itoa(m.named); m.binders[name] == 0 {
			return name
		}
	}
}

// node is a term, which is counted.
func (m *maker) node(c api.Core) api.Core {
	m.many++
	if m.many > api.MaxCode {
		panic(tooGreat{})
	}
	return c
}

func (m *maker) small(n int) api.Core { return m.node(api.Core{Kind: api.CoreSmall, N: n}) }

// term is a term without cases.
func (m *maker) term(c *api.Core) api.Core {
	switch c.Kind {
	case api.CoreVar:
		return m.variable(m.known[c.Name])
	case api.CoreCase:
		return m.choice(c)
	}
	out := m.node(alone(c))
	switch c.Kind {
	case api.CoreLet, api.CoreHandle:
		out.Kids = append(m.terms(c.Kids[:1]), m.under(bound(c), c.Kids[1:])...)
	default:
		out.Kids = m.under(bound(c), c.Kids)
	}
	return out
}

// alone is a term without its kids.
func alone(c *api.Core) api.Core {
	out := api.Core{Kind: c.Kind}
	switch c.Kind {
	case api.CoreInt:
		out.Int = big.Norm(c.Int)
	case api.CoreReal:
		out.Bits = c.Bits
	case api.CoreText:
		out.Text = c.Text
	case api.CoreSmall, api.CoreExn, api.CoreBlock, api.CoreField:
		out.N = c.N
	case api.CoreFn, api.CoreLet, api.CoreHandle, api.CorePrim:
		out.Name = c.Name
	case api.CoreRec:
		out.Names = slices.Clone(c.Names)
	case api.CoreSwitch:
		out.Tags = append([]int(nil), c.Tags...)
	}
	return out
}

func (m *maker) terms(l []api.Core) []api.Core {
	if len(l) == 0 {
		return nil
	}
	out := make([]api.Core, len(l))
	for i := range l {
		out[i] = m.term(&l[i])
	}
	return out
}

// under are terms where names are bound.
func (m *maker) under(names []string, l []api.Core) []api.Core {
	stand := make([]named, len(names))
	for i, name := range names {
		stand[i] = named{name, m.newPlace(place{name: name, isBound: true})}
	}
	outer := m.declare(stand)
	out := m.terms(l)
	m.declare(outer)
	return out
}

// named is a name, and the place that it stands for.
type named struct {
	name string
	at   int
}

// declare lets names stand for places, and answers what they stood for, in the turned order.
func (m *maker) declare(l []named) []named {
	outer := make([]named, 0, len(l))
	for _, n := range slices.Backward(l) {
		outer = append(outer, named{n.name, m.known[n.name]})
		m.known[n.name] = n.at
	}
	return outer
}

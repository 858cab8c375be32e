package opt

import (
	"slices"

	"smithy/api"
)

const (
	short = 8 // nodes of a function that is laid into the places of several calls
	brief = 3 // nodes of what stands behind a try, if it is laid behind each of the ways through it
	few   = 4 // ways through a body that are followed
)

// measure is how great a body is.
type measure struct {
	size   int     // nodes
	high   int     // how deep they are nested in one another; no less than that, if something was laid in
	exits  int     // nodes with which it returns, or goes on in its place
	ends   []*node // these nodes, if they are few
	raises bool    // it may raise
	heavy  bool    // it should not stand in several places
}

// layer lays functions into the places of calls, and what stands behind a try into the place of what returns to it.
type layer struct {
	*program
	at *function // that is gone through
	of []measure // of all functions, as they are
	callers
	room int // nodes that there is still room for
	grow int // by how many the program may still grow
}

// lay goes through all functions, those first that were met last: what they call lies in their places by then, mostly.
func (p *program) lay() {
	many := len(p.funs)
	l := &layer{program: p, of: make([]measure, many), callers: p.callers()}
	size := many
	for i, f := range p.funs {
		l.of[i] = l.measured(f.body)
		size += l.of[i].size
	}
	l.room, l.grow = api.MaxCode-size, 50+size/4
	for i := many - 1; i >= 0; i-- {
		l.at = p.funs[i]
		l.at.body, l.of[i] = l.flow(l.at.body, 1)
	}
}

// flow goes through a node that is so deep.
func (l *layer) flow(n *node, deep int) (*node, measure) {
	kids := make([]measure, len(n.below))
	for i := range n.below {
		n.below[i], kids[i] = l.flow(n.below[i], deep+1)
	}
	switch {
	case n.Kind == api.FlowTail:
		if isLow(deep, l.of[n.F].high) && l.mayLay(n.F, n.Args) {
			body := l.copyOf(n.F, n.Args)
			return body, l.measured(body)
		}
	case n.Kind == api.FlowLet && n.Op.Kind == api.OpCall:
		f := l.of[n.Op.F]
		if f.exits <= 1 && isLow(deep, f.high+kids[0].high) && l.mayLay(n.Op.F, n.Op.Args) {
			body := l.copyOf(n.Op.F, n.Op.Args)
			return body, l.join(l.measured(body), n.V, n.below[0], kids[0])
		}
	case n.Kind == api.FlowTry && (n.raisesAgain() || !kids[0].raises):
		if isLow(deep, kids[0].high+kids[2].high) && l.mayJoin(kids[0], kids[2]) {
			return n.below[0], l.join(kids[0], n.W, n.below[2], kids[2])
		}
		l.at.raiseAgain(n)
		kids[1] = l.measured(n.below[1])
	}
	return n, l.weigh(n, kids)
}

// isLow tells whether a node that is so deep may have so many nested in one another.
func isLow(deep, high int) bool { return deep+high-1 <= api.MaxTerm }

// measured is how great a body is.
func (l *layer) measured(n *node) measure {
	kids := make([]measure, len(n.below))
	for i, kid := range n.below {
		kids[i] = l.measured(kid)
	}
	return l.weigh(n, kids)
}

// weigh is how great a body is that begins with a node, and goes on with such ones.
func (l *layer) weigh(n *node, kids []measure) measure {
	m := measure{size: 1, heavy: n.isHeavy()}
	for i, kid := range kids {
		m.size += kid.size
		m.high = max(m.high, kid.high)
		m.raises, m.heavy = m.raises || kid.raises, m.heavy || kid.heavy
		if n.Kind != api.FlowTry || i == 2 {
			m.goOn(kid)
		}
	}
	m.high++
	switch n.Kind {
	case api.FlowRaise:
		m.raises = true
	case api.FlowRet:
		m.goOn(measure{exits: 1, ends: []*node{n}})
	case api.FlowTail, api.FlowGo:
		m.goOn(measure{exits: 1, ends: []*node{n}})
		m.raises = true
	case api.FlowLet:
		m.raises = m.raises || l.mayRaise(&n.Op)
	case api.FlowTry:
		m.raises = kids[0].raises && kids[1].raises || kids[2].raises
	}
	return m
}

// goOn says that a body returns where another one does, too.
func (m *measure) goOn(kid measure) {
	m.exits += kid.exits
	m.ends = append(m.ends, kid.ends...)
	if m.exits > few {
		m.ends = nil
	}
}

// mayRaise tells whether an operation may raise.
func (l *layer) mayRaise(o *api.Op) bool {
	switch o.Kind {
	case api.OpCall, api.OpApply:
		return true
	case api.OpPrim:
		return l.signs[o.Name].does == raises
	}
	return false
}

// mayLay tells whether a function may be laid into the place of a call; the room for it is taken then.
func (l *layer) mayLay(f int, args []api.Atom) bool {
	m, once := l.of[f], l.isOnce(f)
	if !l.funs[f].steady || slices.ContainsFunc(args, isLong) || m.size > l.room {
		return false
	}
	if !once && (l.turns[f] || m.heavy || m.size > short || m.size > l.grow) {
		return false
	}
	l.room -= m.size
	if !once {
		l.grow -= m.size
	}
	return true
}

// mayJoin tells whether what stands behind a body may be laid into the places of all its ends; the room for it is taken then.
func (l *layer) mayJoin(m, next measure) bool {
	more := max(m.exits-1, 0) * next.size
	if m.exits > len(m.ends) || more > 0 && (next.heavy || next.size > brief) || more > l.room || more > l.grow {
		return false
	}
	l.room -= more
	l.grow -= more
	return true
}

// join lets each end of a body set a local to what it returns, and go on with what stands behind it.
func (l *layer) join(m measure, local int, next *node, nm measure) measure {
	out := measure{size: m.size, high: m.high, raises: m.raises, heavy: m.heavy}
	for i, end := range m.ends {
		v, then, tm := local, next, nm
		if i+1 < len(m.ends) {
			c := &copier{l.at, map[int]api.Atom{}}
			v = c.set(local)
			then = c.flow(next)
			tm = l.measured(then)
		}
		*end = node{Flow: api.Flow{Kind: api.FlowLet, V: v, Op: end.returns()}, below: []*node{then}}
		out.size += tm.size
		out.high = m.high + nm.high
		out.raises, out.heavy = out.raises || tm.raises, out.heavy || tm.heavy
		out.goOn(tm)
	}
	return out
}

// returns is an operation that answers what a body's end returns.
func (n *node) returns() api.Op {
	switch n.Kind {
	case api.FlowTail:
		return api.Op{Kind: api.OpCall, F: n.F, Args: n.Args}
	case api.FlowGo:
		return api.Op{Kind: api.OpApply, Args: []api.Atom{n.A, n.Args[0]}}
	}
	return api.Op{Kind: api.OpAtom, Args: []api.Atom{n.A}}
}

// copyOf is a function's body, of such arguments, with locals of the function that is gone through.
func (l *layer) copyOf(f int, args []api.Atom) *node {
	c := &copier{l.at, map[int]api.Atom{}}
	for i, v := range l.funs[f].params {
		c.names[v] = args[i]
	}
	return c.flow(l.funs[f].body)
}

// copier copies a body into a function.
type copier struct {
	to    *function
	names map[int]api.Atom // what stands for the locals that are not the same there
}

// set is the local that stands for one that is set.
func (c *copier) set(local int) int {
	if !isSteady(local) {
		return local
	}
	v := c.to.local()
	c.names[local] = variable(v)
	return v
}

func (c *copier) flow(n *node) *node {
	out := &node{Flow: n.Flow}
	out.A, out.Args, out.Op.Args = c.atom(n.A), c.atoms(n.Args), c.atoms(n.Op.Args)
	switch n.Kind {
	case api.FlowLet:
		out.V = c.set(n.V)
	case api.FlowTry:
		out.V, out.W = c.set(n.V), c.set(n.W)
	}
	for _, kid := range n.below {
		out.below = append(out.below, c.flow(kid))
	}
	return out
}

func (c *copier) atoms(l []api.Atom) []api.Atom {
	out := slices.Clone(l)
	for i, a := range out {
		out[i] = c.atom(a)
	}
	return out
}

func (c *copier) atom(a api.Atom) api.Atom {
	if is, known := c.names[a.V]; known && isLocal(a) {
		return is
	}
	return a
}

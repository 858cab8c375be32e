package types

import (
	"slices"

	"smithy/api"
)

// outermost is what is known of the outermost val or fun alone.
type outermost struct {
	vars      *typeVars   // those that are written in it
	waiting   []selection // selectors whose record is not known yet
	operators []operation // those that are to be told apart
	met       []*ty       // the types of its expressions and patterns
	owed      []*ty       // types that must have equality
}

// selection is a selector's place.
type selection struct {
	e        *api.Exp
	from, to *ty
}

// operation is an operator's place.
type operation struct {
	e  *api.Exp
	of *ty
}

// enterValue begins a val or fun, and tells how many selectors are waiting ahead of it.
func (c *checker) enterValue() (ahead int) {
	c.level++
	if c.level == 1 {
		c.outermost = outermost{vars: &typeVars{known: map[string]*ty{}, other: c.writtenVariable}}
	}
	return len(c.waiting)
}

// writtenVariable is what a type variable stands for in all of the outermost val or fun.
func (c *checker) writtenVariable(name string) *ty {
	return &ty{kind: kindVariable, level: 1, eq: hasEquality(name)}
}

// leaveValue ends a val or fun, ahead of its variables being made generics. Selectors of which the record does not follow
// yet keep their types what they are, as it must follow from what is about it then.
func (c *checker) leaveValue(ahead int) {
	own := c.unresolved(c.waiting[ahead:])
	c.waiting = c.waiting[:ahead+len(own)]
	c.level--
	if c.level == 0 {
		must(len(own) == 0)
		c.tellApart()
	}
	for _, s := range own {
		c.lower(s.from, c.level)
		c.lower(s.to, c.level)
	}
}

// selector is the type of a selector.
func (c *checker) selector(e *api.Exp) *ty {
	s := selection{e, c.variable(), c.variable()}
	c.waiting = append(c.waiting, s)
	return c.function(s.from, s.to)
}

// unresolved are the selectors of which the record does not follow; one may follow from another one.
func (c *checker) unresolved(l []selection) []selection {
	for again := true; again; {
		many := len(l)
		l = slices.DeleteFunc(l, c.resolved)
		again = len(l) < many
	}
	return l
}

// resolved tells whether it is known on which record a selector is used; it is written into it then.
func (c *checker) resolved(s selection) bool {
	t := c.head(s.from)
	if t.kind == kindVariable {
		return false
	}
	place := slices.Index(t.labels, s.e.Name)
	must(place >= 0)
	c.unify(s.to, t.args[place])
	s.e.Labels, s.e.N = slices.Clone(t.labels), place
	return true
}

// operator is the type of an operator that is told apart, at one place. What it is of stays one type in all of the
// outermost val or fun.
func (c *checker) operator(e *api.Exp) *ty {
	of := &ty{kind: kindVariable, level: 1}
	c.operators = append(c.operators, operation{e, of})
	if e.Name == "~" {
		return c.function(of, of)
	}
	to := of
	if isOrder(e.Name) {
		to = c.truth
	}
	return c.function(recordOf([]string{"1", "2"}, []*ty{of, of}), to)
}

func isOrder(name string) bool { return name[0] == '<' || name[0] == '>' }

// tellApart says of each operator what it is of: int, where nothing else follows.
func (c *checker) tellApart() {
	for _, o := range c.operators {
		if find(o.of).kind == kindVariable {
			c.unify(o.of, c.integer)
		}
		t := c.head(o.of)
		must(t.kind == kindApplied)
		switch t.con {
		case c.integer.con, c.real.con:
		case c.char.con, c.text.con:
			must(isOrder(o.e.Name))
		default:
			panic(fault{})
		}
		o.e.Name += t.con.name
	}
}

// measured are those types of a list that may still become greater; none may be too great.
func (c *checker) measured(l []*ty) []*ty {
	return slices.DeleteFunc(l, func(t *ty) bool {
		parts, settled := c.size(t, api.MaxType)
		must(parts <= api.MaxType)
		return settled
	})
}

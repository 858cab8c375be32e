package types

import (
	"slices"

	"smithy/api"
)

// exp is the type of an expression.
func (c *checker) exp(e *api.Exp) *ty {
	t := c.expType(e)
	c.met = append(c.met, t)
	return t
}

func (c *checker) expType(e *api.Exp) *ty {
	switch e.Kind {
	case api.ExpInt:
		return c.integer
	case api.ExpReal:
		return c.real
	case api.ExpChar:
		return c.char
	case api.ExpText:
		return c.text
	case api.ExpVar:
		return c.name(e)
	case api.ExpRecord:
		return recordOf(e.Labels, c.exps(e.Kids))
	case api.ExpSelect:
		return c.selector(e)
	case api.ExpApp:
		kids := c.kids(e, 2)
		to := c.variable()
		c.unify(kids[0], c.function(kids[1], to))
		return to
	case api.ExpTyped:
		t := c.kids(e, 1)[0]
		c.unify(t, c.annotation(e.Types))
		return t
	case api.ExpList:
		element := c.variable()
		for i := range e.Kids {
			c.unify(c.exp(&e.Kids[i]), element)
		}
		return c.listOf(element)
	case api.ExpFn:
		from, to := c.variable(), c.variable()
		c.rules(e.Rules, from, to)
		return c.function(from, to)
	case api.ExpLet:
		return c.let(e)
	}
	return c.control(e)
}

// control is the type of an expression that says what is worked out, and when.
func (c *checker) control(e *api.Exp) *ty {
	switch e.Kind {
	case api.ExpCase:
		to := c.variable()
		c.rules(e.Rules, c.kids(e, 1)[0], to)
		return to
	case api.ExpHandle:
		to := c.kids(e, 1)[0]
		c.rules(e.Rules, c.exn, to)
		return to
	case api.ExpRaise:
		c.unify(c.kids(e, 1)[0], c.exn)
		return c.variable()
	case api.ExpIf:
		kids := c.kids(e, 3)
		c.unify(kids[0], c.truth)
		c.unify(kids[1], kids[2])
		return kids[1]
	case api.ExpWhile:
		c.unify(c.kids(e, 2)[0], c.truth)
		return c.unit
	case api.ExpAnd, api.ExpOr:
		for _, t := range c.kids(e, 2) {
			c.unify(t, c.truth)
		}
		return c.truth
	}
	must(e.Kind == api.ExpSeq && len(e.Kids) > 0)
	kids := c.exps(e.Kids)
	return kids[len(kids)-1]
}

func (c *checker) exps(l []api.Exp) []*ty {
	types := make([]*ty, len(l))
	for i := range l {
		types[i] = c.exp(&l[i])
	}
	return types
}

// kids are the types of an expression's parts, of which there are so many.
func (c *checker) kids(e *api.Exp, many int) []*ty {
	must(len(e.Kids) == many)
	return c.exps(e.Kids)
}

func (c *checker) listOf(element *ty) *ty { return c.apply(c.list, []*ty{element}) }

// rules go from one type to another one.
func (c *checker) rules(l []api.Rule, from, to *ty) {
	must(len(l) > 0)
	for i := range l {
		c.enterRule()
		c.unify(c.wholePat(&l[i].P), from)
		c.unify(c.exp(&l[i].E), to)
		c.leaveRule()
	}
}

func (c *checker) let(e *api.Exp) *ty {
	c.enterLet()
	c.decs(e.Decs)
	t := c.kids(e, 1)[0]
	c.leaveLet()
	return t
}

// name is the type of a name, at one place.
func (c *checker) name(e *api.Exp) *ty {
	v, is := c.valueNamed(e.Name)
	must(is)
	if v.sort == sortOperator {
		return c.operator(e)
	}
	whole := c.whole(v)
	parts, _ := c.size(whole, api.MaxType)
	must(parts <= api.MaxType)
	return c.put(whole, c.instances(v.generics))
}

// whole is the type of a value: of a constructor with an argument that of a function.
func (c *checker) whole(v value) *ty {
	if v.arg != nil {
		return c.function(v.arg, v.ty)
	}
	return v.ty
}

// isStill tells whether an expression only says what its value is.
func (c *checker) isStill(e *api.Exp) bool {
	switch e.Kind {
	case api.ExpInt, api.ExpReal, api.ExpChar, api.ExpText, api.ExpVar, api.ExpFn, api.ExpSelect:
		return true
	case api.ExpRecord, api.ExpList, api.ExpTyped:
		return !slices.ContainsFunc(e.Kids, func(kid api.Exp) bool { return !c.isStill(&kid) })
	case api.ExpApp:
		return e.Kids[0].Kind == api.ExpVar && c.isPatternName(e.Kids[0].Name) && c.isStill(&e.Kids[1])
	}
	return false
}

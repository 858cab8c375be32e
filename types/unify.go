package types

import "slices"

// unify makes two types the same. Both are those of expressions, of patterns, or parts of them.
func (c *checker) unify(a, b *ty) {
	c.left = steps
	c.same(a, b, 0)
}

// unifyGreat makes two types the same that may have any number of parts.
func (c *checker) unifyGreat(a, b *ty) {
	c.left = manySteps
	c.same(a, b, 0)
}

func (c *checker) same(a, b *ty, deep int) {
	a, b = find(a), find(b)
	if a == b {
		return
	}
	c.step(deep)
	switch {
	case a.kind == kindVariable:
		c.bind(a, b, deep)
	case b.kind == kindVariable:
		c.bind(b, a, deep)
	case a.kind == kindApplied && b.kind == kindApplied && a.con == b.con:
		c.sameParts(a, b, deep)
	case isShort(a):
		c.same(c.head(a), b, deep)
	case isShort(b):
		c.same(a, c.head(b), deep)
	default:
		must(a.kind == kindRecord && b.kind == kindRecord && slices.Equal(a.labels, b.labels))
		c.sameParts(a, b, deep)
	}
}

func isShort(t *ty) bool { return t.kind == kindApplied && t.con.body != nil }

// sameParts makes the parts of two types the same; what the first one was made of need not be kept then.
func (c *checker) sameParts(a, b *ty, deep int) {
	for i := range a.args {
		c.same(a.args[i], b.args[i], deep+1)
	}
	if len(a.args) > 0 {
		a.link, a.args, a.full = b, nil, nil
	}
}

// bind lets a variable be a type.
func (c *checker) bind(v, t *ty, deep int) {
	if t.kind == kindVariable {
		t.level = min(t.level, v.level)
		t.eq = t.eq || v.eq
	} else {
		c.fit(v, t, deep)
		if v.eq {
			c.demand(t, deep)
		}
	}
	v.link = t
}

// fit sees to it that t can be what v is: v is no part of it, and all that it is made of is known where v is.
func (c *checker) fit(v, t *ty, deep int) {
	c.step(deep)
	t = find(t)
	switch t.kind {
	case kindVariable:
		must(t != v)
		t.level = min(t.level, v.level)
	case kindApplied:
		must(t.con.level <= v.level)
	}
	for _, a := range t.args {
		c.fit(v, a, deep+1)
	}
}

// lower lets the variables of a type belong where no more than so many val and fun are about.
func (c *checker) lower(t *ty, level int) {
	c.left = steps
	c.fit(&ty{kind: kindVariable, level: level}, t, 0)
}

// generalise makes generics of the variables of a type that belong to what was declared alone. Those that were made are
// told in all, by whether they have equality.
func (c *checker) generalise(t *ty, all []bool) []bool {
	c.left = steps
	return c.generics(t, all, 0)
}

func (c *checker) generics(t *ty, all []bool, deep int) []bool {
	c.step(deep)
	t = find(t)
	if t.kind == kindVariable && t.level > c.level {
		t.kind, t.place = kindGeneric, len(all)
		return append(all, t.eq)
	}
	for _, a := range t.args {
		all = c.generics(a, all, deep+1)
	}
	return all
}

// instances are new variables, one for each generic.
func (c *checker) instances(generics []bool) []*ty {
	types := make([]*ty, len(generics))
	for i, eq := range generics {
		types[i] = c.variable()
		types[i].eq = eq
	}
	return types
}

// anyTypes are new types, one for each generic, of which nothing is known but whether they have equality.
func (c *checker) anyTypes(generics []bool) []*ty {
	types := make([]*ty, len(generics))
	for i, eq := range generics {
		types[i] = &ty{kind: kindApplied, con: &tycon{eq: eq, level: c.level}}
	}
	return types
}

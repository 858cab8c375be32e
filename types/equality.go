package types

// demand sees to it that a type has equality.
func (c *checker) demand(t *ty, deep int) {
	c.step(deep)
	t = find(t)
	switch t.kind {
	case kindVariable:
		t.eq = true
	case kindGeneric:
		must(t.eq)
	case kindApplied:
		must(t.con.eq)
	}
	for i, a := range t.args {
		if t.needs(i) {
			c.demand(a, deep+1)
		}
	}
}

// needs tells whether a type has equality only if its i-th part has it.
func (t *ty) needs(i int) bool { return t.kind == kindRecord || t.con.needs[i] }

// pay sees to it that those types have equality that were put for parameters which stand for such alone.
func (c *checker) pay() {
	c.left = manySteps
	for _, t := range c.owed {
		c.demand(t, 0)
	}
	c.owed = nil
}

// admits tells whether a type that is written has equality, once its generics have it; needed are those that must.
func (t *ty) admits(needed []bool) bool {
	switch {
	case t.kind == kindGeneric:
		needed[t.place] = true
	case t.kind == kindApplied && !t.con.eq:
		return false
	}
	for i, a := range t.args {
		if t.needs(i) && !find(a).admits(needed) {
			return false
		}
	}
	return true
}

// speaks marks the generics of which a type that is written speaks.
func (t *ty) speaks(used []bool) {
	if t.kind == kindGeneric {
		used[t.place] = true
	}
	for _, a := range t.args {
		find(a).speaks(used)
	}
}

// greatest chooses which datatypes of one declaration have equality: all of them, but for those of which a constructor
// is of something that hasn't it then.
func greatest(made []*tycon, of [][]*ty) {
	for again := true; again; {
		again = false
		for i, con := range made {
			if con.eq && !allAdmit(of[i], con.arity()) {
				con.eq, again = false, true
			}
		}
	}
}

func allAdmit(l []*ty, arity int) bool {
	needed := make([]bool, arity)
	for _, t := range l {
		if !t.admits(needed) {
			return false
		}
	}
	return true
}

package types

// Kinds of types.
const (
	kindVariable = iota + 1 // what it is may still follow
	kindGeneric             // a variable for which a value may have any type, a parameter of a type: the place-th
	kindApplied             // con of args
	kindRecord              // labels, in their order, and args
)

// ty is a type as long as it is worked on.
type ty struct {
	kind   int
	link   *ty // what it has turned out to be
	con    *tycon
	args   []*ty
	labels []string
	place  int
	eq     bool // of a variable, a generic: it stands for types that have equality alone
	level  int  // of a variable: how many val and fun are about the place where it belongs
	full   *ty  // of an abbreviation, once it was needed: what it stands for
	round  int  // the last one in which types were put into it,
	put    *ty  // and what came of it
}

// tycon is a constructor of types, or an abbreviation.
type tycon struct {
	name   string // as it is told
	eq     bool   // it has equality, if those of its arguments have it that it needs
	needs  []bool
	strict []bool   // which of its parameters stand for types that have equality alone
	cons   []string // of a datatype: its constructors
	body   *ty      // of an abbreviation: what it stands for
	used   []bool   // of an abbreviation: which of its parameters it speaks of
	level  int      // of one that stands for any type: how many val and fun are about the place where it is known
	spec   int      // of one that a signature specifies: its number there, from 1 on
}

func (k *tycon) arity() int { return len(k.strict) }

// find is the type that t has turned out to be.
func find(t *ty) *ty {
	for t.link != nil {
		if t.link.link != nil {
			t.link = t.link.link
		}
		t = t.link
	}
	return t
}

// head is the type that t has turned out to be; if that is an abbreviation, what it stands for. An abbreviation is
// looked into only where it is needed: told in full it may be greater than anything.
func (c *checker) head(t *ty) *ty {
	t = find(t)
	for t.kind == kindApplied && t.con.body != nil {
		if t.full == nil {
			t.full = c.put(t.con.body, t.args)
		}
		t = find(t.full)
	}
	return t
}

func (c *checker) variable() *ty { return &ty{kind: kindVariable, level: c.level} }

func (c *checker) function(from, to *ty) *ty {
	return &ty{kind: kindApplied, con: c.arrow, args: []*ty{from, to}}
}

// apply is a constructor of types, or an abbreviation, with its arguments. Arguments of which an abbreviation does not
// speak are forgotten: so two of one abbreviation are the same just where their arguments are.
func (c *checker) apply(con *tycon, args []*ty) *ty {
	if con.body == nil {
		return &ty{kind: kindApplied, con: con, args: args}
	}
	if con.body.kind == kindGeneric {
		return args[con.body.place]
	}
	kept := make([]*ty, len(args))
	for i := range args {
		kept[i] = c.unit
		if con.used[i] {
			kept[i] = args[i]
		}
	}
	return &ty{kind: kindApplied, con: con, args: kept}
}

// put is t with types in the place of its generics.
func (c *checker) put(t *ty, types []*ty) *ty { return c.putBoth(t, types, nil) }

// putBoth is t with types in the place of its generics, and cons in the place of what a signature specifies; nil leaves
// them as they are.
func (c *checker) putBoth(t *ty, types []*ty, cons []*tycon) *ty {
	c.rounds++
	p := putting{checker: c, types: types, cons: cons, room: manySteps}
	return p.ty(t, 0)
}

// putting goes through a type once, however often one part of it stands there: what came of a part is kept.
type putting struct {
	*checker
	types []*ty
	cons  []*tycon
	room  int
}

func (p *putting) ty(t *ty, deep int) *ty {
	t = find(t)
	switch {
	case t.kind == kindVariable, t.kind == kindGeneric && p.types == nil:
		return t
	case t.kind == kindGeneric:
		return p.types[t.place]
	case t.round == p.rounds:
		return t.put
	}
	p.room--
	must(p.room >= 0 && deep < mostStacked)
	t.round, t.put = p.rounds, p.parts(t, deep)
	return t.put
}

// parts is t with what comes of its parts; t itself, if nothing is put into them.
func (p *putting) parts(t *ty, deep int) *ty {
	isNew := false
	args := make([]*ty, len(t.args))
	for i, a := range t.args {
		args[i] = p.ty(a, deep+1)
		isNew = isNew || args[i] != find(a)
	}
	con := t.con
	if t.kind == kindApplied && con.spec > 0 && p.cons != nil {
		con, isNew = p.cons[con.spec-1], true
	}
	switch {
	case !isNew:
		return t
	case t.kind == kindRecord:
		return &ty{kind: kindRecord, labels: t.labels, args: args}
	}
	return p.apply(con, args)
}

// sizing counts the parts of a type.
type sizing struct {
	*checker
	parts   int
	most    int
	settled bool
}

// size is how many parts a type has, told in full; if there are more than so many, some number above that. It is settled,
// if nothing can make it greater any more.
func (c *checker) size(t *ty, most int) (parts int, settled bool) {
	s := sizing{checker: c, most: most, settled: true}
	s.count(t, 0)
	return s.parts, s.settled
}

func (s *sizing) count(t *ty, deep int) {
	s.parts++
	if deep == mostStacked {
		s.parts = s.most + 1
	}
	if s.parts > s.most {
		return
	}
	t = s.head(t)
	if t.kind == kindVariable && t.level == 0 {
		s.settled = false
	}
	for _, a := range t.args {
		s.count(a, deep+1)
	}
}

package types

import (
	"slices"

	"smithy/api"
)

func (c *checker) decs(l []api.Dec) {
	for i := range l {
		c.dec(&l[i])
	}
}

func (c *checker) dec(d *api.Dec) {
	switch d.Kind {
	case api.DecVal:
		c.val(d)
	case api.DecFun:
		c.funs(d.Funs)
	case api.DecData:
		c.datatypes(d.Datas)
	case api.DecType:
		c.abbreviation(d)
	case api.DecExn:
		declare(c.values, d.Name, c.exception(d.Types))
	case api.DecStruct:
		c.structure(d)
	case api.DecSig:
		must(c.level == 0)
		declare(c.signatures, d.Name, c.signature(d.Specs))
	default:
		must(d.Kind == api.DecInfix || d.Kind == api.DecNonfix)
	}
}

func (c *checker) val(d *api.Dec) {
	must(len(d.Pats) == 1 && len(d.Exps) == 1)
	ahead := c.enterValue()
	b := newBound()
	c.unify(c.exp(&d.Exps[0]), c.pat(&d.Pats[0], b))
	isStill := c.isStill(&d.Exps[0])
	c.leaveValue(ahead)
	var generics []bool
	for _, m := range b.members {
		if isStill {
			generics = c.generalise(m.ty, generics)
		} else {
			c.lower(m.ty, c.level)
		}
	}
	c.declareValues(b.members, generics)
}

// declareValues declares what a val or fun has declared, and has it told, if that was the outermost one.
func (c *checker) declareValues(l []member, generics []bool) {
	c.declareAll(l, generics)
	if c.level > 0 {
		return
	}
	c.here.own = append(c.here.own, l...)
	c.open = append(c.open, c.measured(c.met)...)
	c.met = nil
}

// signed is a function's type, part by part.
type signed struct {
	from []*ty
	to   *ty
}

func (c *checker) funs(l []api.Fun) {
	ahead := c.enterValue()
	all, members := c.unknownFuns(l)
	c.enterRule()
	c.declareAll(members, nil)
	for i := range l {
		for j := range l[i].Clauses {
			c.clause(&l[i].Clauses[j], all[i])
		}
	}
	c.leaveRule()
	c.leaveValue(ahead)
	var generics []bool
	for _, f := range all {
		for _, t := range append(f.from, f.to) {
			generics = c.generalise(t, generics)
		}
	}
	c.declareValues(members, generics)
}

// unknownFuns are the types of functions of which nothing is known but how many patterns they have.
func (c *checker) unknownFuns(l []api.Fun) (all []signed, members []member) {
	names := newBound()
	for _, f := range l {
		must(f.Many >= 1 && f.Many <= api.MaxArity && len(f.Clauses) > 0 && !c.isPatternName(f.Name))
		s := signed{to: c.variable()}
		for range f.Many {
			s.from = append(s.from, c.variable())
		}
		whole := s.to
		for _, from := range slices.Backward(s.from) {
			whole = c.function(from, whole)
		}
		names.add(f.Name, whole)
		all = append(all, s)
	}
	return all, names.members
}

func (c *checker) clause(clause *api.Clause, f signed) {
	must(len(clause.Pats) == len(f.from))
	c.enterRule()
	b := newBound()
	for i := range clause.Pats {
		c.unify(c.pat(&clause.Pats[i], b), f.from[i])
	}
	c.declareAll(b.members, nil)
	c.unify(c.exp(&clause.E), f.to)
	c.leaveRule()
}

func (c *checker) exception(l []api.Type) value {
	v := value{sort: sortException, ty: c.exn, arg: c.writtenIf(l, noVars())}
	c.pay()
	return v
}

// newCon is a new constructor of types. It is told by its name behind those of the structures about, and by a number, if
// there is one already that is told so.
func (c *checker) newCon(name string, strict []bool) *tycon {
	name = c.path + name
	c.made[name]++
	needs := make([]bool, len(strict))
	for i := range needs {
		needs[i] = true
	}
	return &tycon{name: numbered(name, c.made[name]), eq: true, needs: needs, strict: strict}
}

// abbreviation declares a name for a type.
func (c *checker) abbreviation(d *api.Dec) {
	must(len(d.Datas) == 1 && len(d.Types) == 1)
	vars, strict := parameters(d.Datas[0].Vars)
	body := c.written(&d.Types[0], vars)
	c.pay()
	declare(c.types, d.Datas[0].Name, typeName{con: c.short(body, strict)})
}

// short is an abbreviation of a type that is written. What it stands for begins with no abbreviation, so that no row of
// these is ever gone through again.
func (c *checker) short(body *ty, strict []bool) *tycon {
	con := &tycon{strict: strict, needs: make([]bool, len(strict)), used: make([]bool, len(strict))}
	con.eq = body.admits(con.needs)
	body.speaks(con.used)
	con.body = c.head(body)
	return con
}

// datatypes declares those of one declaration, which all know each other.
func (c *checker) datatypes(l []api.Data) {
	made := make([]*tycon, len(l))
	names := map[string]struct{}{}
	for i, d := range l {
		addName(names, d.Name)
		_, strict := parameters(d.Vars)
		made[i] = c.newCon(d.Name, strict)
		declare(c.types, d.Name, typeName{con: made[i], isData: true})
	}
	names = map[string]struct{}{}
	of := make([][]*ty, len(l))
	for i, d := range l {
		for j, v := range c.constructors(&d, made[i]) {
			addName(names, d.Cons[j].Name)
			declare(c.values, d.Cons[j].Name, v)
			if v.arg != nil {
				of[i] = append(of[i], v.arg)
			}
		}
	}
	greatest(made, of)
	c.pay()
}

// constructors are those of a datatype.
func (c *checker) constructors(d *api.Data, con *tycon) []value {
	vars, strict := parameters(d.Vars)
	args := make([]*ty, len(d.Vars))
	for i, name := range d.Vars {
		args[i] = vars.known[name]
	}
	made := c.apply(con, args)
	var list []value
	for _, k := range d.Cons {
		con.cons = append(con.cons, k.Name)
		list = append(list, value{sort: sortConstructor, ty: made, arg: c.writtenIf(k.Types, vars), generics: strict, con: con})
	}
	return list
}

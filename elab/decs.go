package elab

import (
	"slices"

	"smithy/api"
)

// mostOpen is behind how many declarations one may stand, so that trees of very many are not gone through too deep. A text has
// fewer, and a term that so many values are declared in is too deep.
const mostOpen = 2 * api.MaxTerm

// decs is what stands behind declarations, given the names that are known there, within what these do.
func (m *maker) decs(l []api.Dec, at *scope, behind func(at *scope) api.Core) api.Core {
	switch {
	case len(l) == 0:
		return behind(at)
	case m.open == mostOpen:
		return api.Core{}
	}
	m.open++
	c := m.dec(&l[0], at, func(at *scope) api.Core { return m.decs(l[1:], at, behind) })
	m.open--
	return c
}

func (m *maker) dec(d *api.Dec, at *scope, behind func(at *scope) api.Core) api.Core {
	switch d.Kind {
	case api.DecVal:
		return m.val(d, at, behind)
	case api.DecFun:
		return m.funs(d.Funs, at, behind)
	case api.DecExn:
		return m.exception(d, at, behind)
	case api.DecStruct:
		return m.structure(d, at, behind)
	case api.DecData:
		for i := range d.Datas {
			at.declareConstructors(d.Datas[i].Cons)
		}
		return behind(at)
	case api.DecType, api.DecSig, api.DecInfix, api.DecNonfix:
		return behind(at)
	}
	return api.Core{}
}

func (m *maker) val(d *api.Dec, at *scope, behind func(at *scope) api.Core) api.Core {
	if len(d.Pats) != 1 || len(d.Exps) != 1 {
		return api.Core{}
	}
	return m.bound(&d.Pats[0], m.exp(&d.Exps[0], at), raiseBuiltIn(api.ExnBind), at, behind)
}

// exception makes a new cell, each time that it is met.
func (m *maker) exception(d *api.Dec, at *scope, behind func(at *scope) api.Core) api.Core {
	cell := m.newName(d.Name)
	at.declare(d.Name, meaning{sort: sortException, name: cell, hasArg: len(d.Types) > 0})
	return let(cell, primitive("ref", api.Core{Kind: api.CoreText, Text: d.Name}), behind(at))
}

// structure is only names. Those that a signature hides are not asked for: types would not let them be found.
func (m *maker) structure(d *api.Dec, at *scope, behind func(at *scope) api.Core) api.Core {
	declared := func(part *scope) api.Core {
		at.declareStructure(d.Name, part)
		return behind(at)
	}
	if len(d.Names) == 0 {
		return m.decs(d.Decs, at.within(), declared)
	}
	if part := at.structure(d.Names[0]); part != nil {
		return declared(part)
	}
	return api.Core{}
}

// funs are functions that know each other.
func (m *maker) funs(l []api.Fun, at *scope, behind func(at *scope) api.Core) api.Core {
	names := make([]string, len(l))
	for i := range l {
		names[i] = m.newName(l[i].Name)
		at.declareVariable(l[i].Name, names[i])
	}
	kids := make([]api.Core, len(l)+1)
	for i := range l {
		kids[i] = m.fun(&l[i], at)
	}
	kids[len(l)] = behind(at)
	return api.Core{Kind: api.CoreRec, Names: names, Kids: kids}
}

// fun is a function by clauses, that takes its arguments one by one.
func (m *maker) fun(f *api.Fun, at *scope) api.Core {
	isOther := func(c api.Clause) bool { return len(c.Pats) != f.Many }
	if f.Many < 1 || f.Many > api.MaxArity || len(f.Clauses) == 0 || slices.ContainsFunc(f.Clauses, isOther) {
		return api.Core{}
	}
	names := m.newNames(f.Many, "arg")
	c := m.clauses(f.Clauses, names, at)
	for _, name := range slices.Backward(names) {
		c = fn(name, c)
	}
	return c
}

// clauses is what comes of the first clause that arguments fit, a case as of rules. Only those arguments are looked at that some
// clause asks about, or the first one.
func (m *maker) clauses(l []api.Clause, args []string, at *scope) api.Core {
	asked := askedFor(l, len(args))
	if len(asked) == 0 {
		asked = []int{0}
	}
	rows := make([]api.Row, len(l))
	for i := range l {
		inner := aliased(&l[i], args, asked, at)
		rows[i].S = m.together(&l[i], asked, inner)
		rows[i].E = m.exp(&l[i].E, inner)
	}
	return cases(looked(args, asked), raiseBuiltIn(api.ExnMatch), rows)
}

// askedFor are the places of those of so many arguments that some clause asks about.
func askedFor(l []api.Clause, many int) []int {
	var asked []int
	for place := range many {
		if slices.ContainsFunc(l, func(c api.Clause) bool { return !isPlain(&c.Pats[place]) }) {
			asked = append(asked, place)
		}
	}
	return asked
}

// aliased is a scope in which the names are declared that a clause has for arguments that are not asked about.
func aliased(c *api.Clause, args []string, asked []int, at *scope) *scope {
	inner := at.within()
	for place := range c.Pats {
		if !slices.Contains(asked, place) {
			inner.alias(&c.Pats[place], args[place])
		}
	}
	return inner
}

// looked is the argument that is asked about, or the block of them.
func looked(args []string, asked []int) api.Core {
	if len(asked) == 1 {
		return variable(args[asked[0]])
	}
	fields := make([]api.Core, len(asked))
	for i, place := range asked {
		fields[i] = variable(args[place])
	}
	return record(fields)
}

// together is the shape of what looked is.
func (m *maker) together(c *api.Clause, asked []int, at *scope) api.Shape {
	if len(asked) == 1 {
		return m.shape(&c.Pats[asked[0]], at)
	}
	kids := make([]api.Shape, len(asked))
	for i, place := range asked {
		kids[i] = m.shape(&c.Pats[place], at)
	}
	return recordShape(kids)
}

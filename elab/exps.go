package elab

import (
	"slices"

	"smithy/api"
	"smithy/big"
	"smithy/front"
)

// exp is the term of an expression, where so much is known.
func (m *maker) exp(e *api.Exp, at *scope) api.Core {
	if len(e.Kids) != manyKids(e) {
		return api.Core{}
	}
	switch e.Kind {
	case api.ExpInt:
		return api.Core{Kind: api.CoreInt, Int: big.Norm(e.Int)}
	case api.ExpReal:
		return api.Core{Kind: api.CoreReal, Bits: e.Bits}
	case api.ExpChar:
		return small(e.N)
	case api.ExpText:
		return api.Core{Kind: api.CoreText, Text: e.Text}
	case api.ExpVar:
		return m.value(at.value(e.Name))
	case api.ExpRecord:
		return m.laid(m.exps(e.Kids, at), front.Places(e.Labels), record)
	case api.ExpList:
		return list(m.exps(e.Kids, at))
	case api.ExpSelect:
		return m.function(func(arg api.Core) api.Core { return field(e.N, arg) })
	case api.ExpFn:
		return m.function(func(arg api.Core) api.Core {
			return m.rules(e.Rules, arg, raiseBuiltIn(api.ExnMatch), at)
		})
	case api.ExpApp:
		return m.app(e, at)
	case api.ExpTyped:
		return m.exp(&e.Kids[0], at)
	case api.ExpLet:
		return m.decs(e.Decs, at.within(), func(at *scope) api.Core { return m.exp(&e.Kids[0], at) })
	}
	return m.control(e, at)
}

// manyKids is how many parts an expression must have.
func manyKids(e *api.Exp) int {
	switch e.Kind {
	case api.ExpTyped, api.ExpLet, api.ExpCase, api.ExpRaise, api.ExpHandle:
		return 1
	case api.ExpApp, api.ExpWhile, api.ExpAnd, api.ExpOr:
		return 2
	case api.ExpIf:
		return 3
	case api.ExpRecord:
		return len(e.Labels)
	case api.ExpSeq:
		return max(len(e.Kids), 1)
	}
	return len(e.Kids)
}

func (m *maker) exps(l []api.Exp, at *scope) []api.Core {
	terms := make([]api.Core, len(l))
	for i := range l {
		terms[i] = m.exp(&l[i], at)
	}
	return terms
}

// control is the term of an expression that says what is worked out, and when.
func (m *maker) control(e *api.Exp, at *scope) api.Core {
	kids := m.exps(e.Kids, at)
	switch e.Kind {
	case api.ExpCase:
		return m.rules(e.Rules, kids[0], raiseBuiltIn(api.ExnMatch), at)
	case api.ExpIf:
		return choice(kids[0], kids[1], kids[2])
	case api.ExpAnd:
		return choice(kids[0], kids[1], truth(false))
	case api.ExpOr:
		return choice(kids[0], truth(true), kids[1])
	case api.ExpWhile:
		return m.while(kids[0], kids[1])
	case api.ExpSeq:
		return m.sequence(kids)
	case api.ExpRaise:
		return raise(kids[0])
	case api.ExpHandle:
		name := m.newName("raised")
		handler := m.rules(e.Rules, variable(name), raise(variable(name)), at)
		return api.Core{Kind: api.CoreHandle, Name: name, Kids: []api.Core{kids[0], handler}}
	}
	return api.Core{}
}

// while is a function that goes on with itself as long as the condition is true. What the body is worth is its argument, which
// nobody asks for.
func (m *maker) while(condition, body api.Core) api.Core {
	name := m.newName("while")
	loop := fn(m.newName("arg"), choice(condition, app(variable(name), body), unit()))
	return api.Core{Kind: api.CoreRec, Names: []string{name}, Kids: []api.Core{loop, app(variable(name), unit())}}
}

// sequence is one term behind the other; the last one's value is its own.
func (m *maker) sequence(terms []api.Core) api.Core {
	last := len(terms) - 1
	c := terms[last]
	for _, term := range slices.Backward(terms[:last]) {
		c = let(m.newName("part"), term, c)
	}
	return c
}

// function is one that makes something of its argument.
func (m *maker) function(body func(arg api.Core) api.Core) api.Core {
	name := m.newName("arg")
	return fn(name, body(variable(name)))
}

// app is the term of an application: of a selector, a constructor, an exception, a primitive what these do at once.
func (m *maker) app(e *api.Exp, at *scope) api.Core {
	f := untyped(&e.Kids[0])
	switch f.Kind {
	case api.ExpSelect:
		return field(f.N, m.exp(&e.Kids[1], at))
	case api.ExpVar:
		if v := at.value(f.Name); v.isFunction() {
			return m.applied(v, m.exp(&e.Kids[1], at))
		}
	}
	kids := m.exps(e.Kids, at)
	return app(kids[0], kids[1])
}

// untyped is an expression without the types that are written to it.
func untyped(e *api.Exp) *api.Exp {
	for e.Kind == api.ExpTyped && len(e.Kids) == 1 {
		e = &e.Kids[0]
	}
	return e
}

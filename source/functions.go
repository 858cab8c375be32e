package source

import (
	"slices"

	"smithy/api"
	"smithy/prim"
)

// function is what can be applied.
type function struct {
	call func(arg prim.Value) prim.Value
}

// fn is a function by rules.
func (r *runner) fn(rules []api.Rule, at *scope) function {
	return function{func(arg prim.Value) prim.Value { return r.match(rules, arg, at) }}
}

// match is what comes of the first rule that a value fits.
func (r *runner) match(rules []api.Rule, v prim.Value, at *scope) prim.Value {
	if e, inner := r.ruleFor(rules, v, at); e != nil {
		return r.exp(e, inner)
	}
	return r.RaiseBuiltIn(api.ExnMatch)
}

// ruleFor is the expression of the first rule that a value fits, and what is known there; nil, if there is none.
func (r *runner) ruleFor(rules []api.Rule, v prim.Value, at *scope) (*api.Exp, *scope) {
	for i := range rules {
		if inner, fits := r.fit(&rules[i].P, v, at); fits {
			return &rules[i].E, inner
		}
	}
	return nil, nil
}

// funs declares functions that know each other: each one looks at all when it is applied, and by then all are there.
func (r *runner) funs(l []api.Fun, at *scope) *scope {
	all := at
	for i := range l {
		all = all.withValue(l[i].Name, function{func(arg prim.Value) prim.Value { return r.clauses(&l[i], nil, arg, all) }})
	}
	return all
}

// clauses is what a function by clauses does that has some arguments, and is applied to one more. Until it has all of them it
// is a function again; that may be applied several times, so that no two of them share the room behind their arguments.
func (r *runner) clauses(f *api.Fun, args []prim.Value, arg prim.Value, at *scope) prim.Value {
	args = append(slices.Clip(args), arg)
	if len(args) < f.Many {
		return function{func(next prim.Value) prim.Value { return r.clauses(f, args, next, at) }}
	}
	for i := range f.Clauses {
		if inner, fits := r.fitAll(f.Clauses[i].Pats, args, at); fits {
			return r.exp(&f.Clauses[i].E, inner)
		}
	}
	return r.RaiseBuiltIn(api.ExnMatch)
}

// selector is a function that takes a field of a record.
func selector(place int) function {
	return function{func(record prim.Value) prim.Value {
		b := prim.As[*prim.Block](record)
		prim.Must(place >= 0 && place < len(b.Fields))
		return b.Fields[place]
	}}
}

// constructor is what a constructor's name stands for.
func constructor(tag int, hasArg bool) meaning {
	m := meaning{sort: sortConstructor, tag: tag, value: prim.Small(tag)}
	if hasArg {
		m.value = function{func(arg prim.Value) prim.Value {
			return &prim.Block{Tag: tag, Fields: []prim.Value{arg}}
		}}
	}
	return m
}

// exception is what an exception's name stands for.
func exception(cell *prim.Cell, hasArg bool) meaning {
	m := meaning{sort: sortException, cell: cell, value: prim.Pack(cell, prim.Small(0))}
	if hasArg {
		m.value = function{func(arg prim.Value) prim.Value { return prim.Pack(cell, arg) }}
	}
	return m
}

package flow

import (
	"slices"

	"smithy/api"
	"smithy/prim"
)

// runner does what a program says that may be.
type runner struct {
	*prim.Run
	primitives map[string]prim.Primitive
	funs       []api.Func
}

func newRunner(p api.Program, w api.World, fuel int) *runner {
	return &runner{prim.New(w, fuel), prim.Primitives(), p.Funs}
}

// call is what a function returns.
func (r *runner) call(function int, args []prim.Value) prim.Value {
	return r.body(r.begin(function, args))
}

// begin is where a function begins, and its locals as they are then.
func (r *runner) begin(function int, args []prim.Value) (*api.Flow, *locals) {
	return &r.funs[function].Body, &locals{given: args}
}

// body goes through a node and what is gone on with behind it, functions in its place among that; it is what that returns.
func (r *runner) body(f *api.Flow, l *locals) prim.Value {
	for {
		r.Step()
		switch f.Kind {
		case api.FlowRet:
			return r.atom(&f.A, l)
		case api.FlowRaise:
			return prim.Raise(r.atom(&f.A, l))
		case api.FlowLet:
			l.put(f.V, r.op(&f.Op, l))
			f = &f.Kids[0]
		case api.FlowTry:
			l.put(f.W, r.try(f, l))
			f = &f.Kids[2]
		case api.FlowTail:
			f, l = r.begin(f.F, r.atoms(f.Args, l))
		case api.FlowGo:
			f, l = r.begin(entered(r.atom(&f.A, l), r.atom(&f.Args[0], l)))
		default:
			f = &f.Kids[chosen(f, r.atom(&f.A, l))]
		}
	}
}

// try is what the first kid of a try returns, or, if that raises a value, what the second one does. What that one raises is
// not caught here.
func (r *runner) try(f *api.Flow, l *locals) prim.Value {
	v, raised := prim.Try(func() prim.Value { return r.body(&f.Kids[0], l) })
	if raised == nil {
		return v
	}
	l.put(f.V, raised.Value)
	return r.body(&f.Kids[1], l)
}

// chosen is the place of the kid that an if or a switch goes on with.
func chosen(f *api.Flow, v prim.Value) int {
	if f.Kind == api.FlowSwitch {
		return placeOf(f.Tags, number(v))
	}
	if prim.As[prim.Small](v) != 0 {
		return 0
	}
	return 1
}

// placeOf is where a tag stands; behind all of them, if it doesn't.
func placeOf(tags []int, tag int) int {
	if place := slices.Index(tags, tag); place >= 0 {
		return place
	}
	return len(tags)
}

// number is a small number, or the tag of a block. The run is stuck, if a value is neither.
func number(v prim.Value) int {
	if small, is := v.(prim.Small); is {
		return int(small)
	}
	return prim.As[*prim.Block](v).Tag
}

package source

import (
	"smithy/api"
	"smithy/big"
	"smithy/front"
	"smithy/prim"
)

// exp is the value of an expression, where so much is known.
func (r *runner) exp(e *api.Exp, at *scope) prim.Value {
	r.Step()
	switch e.Kind {
	case api.ExpInt:
		return big.Norm(e.Int)
	case api.ExpReal:
		return prim.Real(e.Bits)
	case api.ExpChar:
		return prim.Small(e.N)
	case api.ExpText:
		return prim.Text(e.Text)
	case api.ExpVar:
		return r.value(e.Name, at).value
	case api.ExpRecord:
		return r.record(e, at)
	case api.ExpList:
		return prim.List(r.exps(e.Kids, at))
	case api.ExpSelect:
		return selector(e.N)
	case api.ExpFn:
		return r.fn(e.Rules, at)
	case api.ExpApp:
		f := r.kid(e, 0, at)
		return r.apply(f, r.kid(e, 1, at))
	case api.ExpTyped:
		return r.kid(e, 0, at)
	case api.ExpLet:
		return r.kid(e, 0, r.decs(e.Decs, at))
	}
	return r.control(e, at)
}

// control is the value of an expression that says what is worked out, and when.
func (r *runner) control(e *api.Exp, at *scope) prim.Value {
	switch e.Kind {
	case api.ExpCase:
		return r.match(e.Rules, r.kid(e, 0, at), at)
	case api.ExpIf:
		if r.condition(e, at) {
			return r.kid(e, 1, at)
		}
		return r.kid(e, 2, at)
	case api.ExpAnd:
		if r.condition(e, at) {
			return r.kid(e, 1, at)
		}
		return prim.Truth(false)
	case api.ExpOr:
		if r.condition(e, at) {
			return prim.Truth(true)
		}
		return r.kid(e, 1, at)
	case api.ExpWhile:
		for r.condition(e, at) {
			r.kid(e, 1, at)
		}
		return prim.Unit()
	case api.ExpRaise:
		return prim.Raise(r.kid(e, 0, at))
	case api.ExpHandle:
		return r.handle(e, at)
	}
	prim.Must(e.Kind == api.ExpSeq && len(e.Kids) > 0)
	all := r.exps(e.Kids, at)
	return all[len(all)-1]
}

// kid is the value of an expression's part.
func (r *runner) kid(e *api.Exp, i int, at *scope) prim.Value {
	prim.Must(i < len(e.Kids))
	return r.exp(&e.Kids[i], at)
}

// exps are the values of expressions, one behind the other.
func (r *runner) exps(l []api.Exp, at *scope) []prim.Value {
	values := make([]prim.Value, len(l))
	for i := range l {
		values[i] = r.exp(&l[i], at)
	}
	return values
}

// condition tells whether the first part of an expression is true.
func (r *runner) condition(e *api.Exp, at *scope) bool { return isTrue(r.kid(e, 0, at)) }

func isTrue(v prim.Value) bool { return prim.As[prim.Small](v) != 0 }

// record is that of an expression's parts: worked out as they are written, laid in the order of their labels.
func (r *runner) record(e *api.Exp, at *scope) prim.Value {
	prim.Must(len(e.Labels) == len(e.Kids))
	fields := make([]prim.Value, len(e.Kids))
	for i, place := range front.Places(e.Labels) {
		fields[place] = r.exp(&e.Kids[i], at)
	}
	return prim.Pack(fields...)
}

func (r *runner) apply(f, arg prim.Value) prim.Value { return prim.As[function](f).call(arg) }

// handle is the value of an expression, or, if that raises one, what comes of the first rule that it fits.
func (r *runner) handle(e *api.Exp, at *scope) prim.Value {
	v, raised := prim.Try(func() prim.Value { return r.kid(e, 0, at) })
	if raised == nil {
		return v
	}
	if handler, inner := r.ruleFor(e.Rules, raised.Value, at); handler != nil {
		return r.exp(handler, inner)
	}
	return prim.Raise(raised.Value)
}

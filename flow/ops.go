package flow

import (
	"smithy/api"
	"smithy/prim"
)

// op is what an operation answers.
func (r *runner) op(o *api.Op, l *locals) prim.Value {
	args := r.atoms(o.Args, l)
	switch o.Kind {
	case api.OpPrim:
		return r.primitives[o.Name].Do(r.Run, args)
	case api.OpCall:
		return r.call(o.F, args)
	case api.OpApply:
		return r.call(entered(args[0], args[1]))
	case api.OpBlock:
		return &prim.Block{Tag: o.N, Fields: args}
	case api.OpField:
		return *at(prim.As[*prim.Block](args[0]).Fields, o.N)
	case api.OpClosure:
		return &closure{o.F, args}
	case api.OpCapture:
		return *at(asClosure(args[0]).captured, o.N)
	case api.OpPatch:
		*at(asClosure(args[0]).captured, o.N) = args[1]
		return prim.Unit()
	}
	return args[0]
}

// at is a place of a row. The run is stuck, if it is not there.
func at(row []prim.Value, place int) *prim.Value {
	prim.Must(place < len(row))
	return &row[place]
}

// atoms are the values of atoms, in memory of their own.
func (r *runner) atoms(all []api.Atom, l *locals) []prim.Value {
	values := make([]prim.Value, len(all))
	for i := range all {
		values[i] = r.atom(&all[i], l)
	}
	return values
}

func (r *runner) atom(a *api.Atom, l *locals) prim.Value {
	switch a.Kind {
	case api.AtomVar:
		return l.value(a.V)
	case api.AtomInt:
		return a.Int
	case api.AtomSmall:
		return prim.Small(a.V)
	case api.AtomText:
		return prim.Text(a.Text)
	case api.AtomReal:
		return prim.Real(a.Bits)
	}
	return r.BuiltIn()[a.V]
}

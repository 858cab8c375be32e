package source

import (
	"smithy/front"
	"smithy/prim"
)

// begin declares what there is at first.
func (r *runner) begin() {
	known := prim.Primitives()
	for _, v := range front.Values() {
		r.declareFirst(v, r.primitive(v, known[v.Primitive]))
	}
	r.basis.values["false"] = constructor(0, false)
	r.basis.values["true"] = constructor(1, false)
	r.basis.values["nil"] = constructor(0, false)
	r.basis.values["::"] = constructor(1, true)
	for _, cell := range r.BuiltIn() {
		r.basis.values[string(prim.As[prim.Text](cell.In))] = exception(cell, false)
	}
}

// declareFirst declares a value that there is at first, in its structure, if it has one.
func (r *runner) declareFirst(v front.Value, f function) {
	in := r.basis
	if v.Structure != "" {
		putIfNew(in.parts, v.Structure, newStructure())
		in = in.parts[v.Structure]
	}
	in.values[v.Name] = meaning{value: f}
}

// primitive is the function that a value is, which takes a record, if the primitive has several arguments.
func (r *runner) primitive(v front.Value, p prim.Primitive) function {
	return function{func(x prim.Value) prim.Value {
		args := []prim.Value{x}
		if p.Many > 1 {
			args = fields(x, p.Many)
		}
		switch {
		case v.Turned:
			return p.Do(r.Run, []prim.Value{args[1], args[0]})
		case v.Opposite:
			return prim.Truth(!isTrue(p.Do(r.Run, args)))
		}
		return p.Do(r.Run, args)
	}}
}

// fields are those of a record that has so many.
func fields(record prim.Value, many int) []prim.Value {
	b := prim.As[*prim.Block](record)
	prim.Must(b.Tag == 0 && len(b.Fields) == many)
	return b.Fields
}

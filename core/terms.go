package core

import (
	"slices"

	"smithy/api"
	"smithy/prim"
)

// runner does what terms say.
type runner struct {
	*prim.Run
	primitives map[string]prim.Primitive
}

// term is the value of a term, where so much is known.
func (r *runner) term(c *api.Core, at *scope) prim.Value {
	r.Step()
	switch c.Kind {
	case api.CoreVar:
		return at.value(c.Name)
	case api.CoreInt:
		return c.Int
	case api.CoreSmall:
		return prim.Small(c.N)
	case api.CoreReal:
		return prim.Real(c.Bits)
	case api.CoreText:
		return prim.Text(c.Text)
	case api.CoreExn:
		return r.BuiltIn()[c.N]
	case api.CoreFn:
		return &function{c, at}
	case api.CoreBlock:
		return &prim.Block{Tag: c.N, Fields: r.terms(c.Kids, at)}
	case api.CoreField:
		return field(r.term(&c.Kids[0], at), c.N)
	case api.CorePrim:
		return r.primitives[c.Name].Do(r.Run, r.terms(c.Kids, at))
	case api.CoreRaise:
		return prim.Raise(r.term(&c.Kids[0], at))
	}
	return r.control(c, at)
}

// control is the value of a term that says what is worked out, and where.
func (r *runner) control(c *api.Core, at *scope) prim.Value {
	switch c.Kind {
	case api.CoreRec:
		return r.term(&c.Kids[len(c.Names)], at.withRec(c))
	case api.CoreHandle:
		return r.handle(c, at)
	}
	first := r.term(&c.Kids[0], at)
	switch c.Kind {
	case api.CoreApp:
		return r.apply(first, r.term(&c.Kids[1], at))
	case api.CoreLet:
		return r.term(&c.Kids[1], at.with(c.Name, first))
	case api.CoreIf:
		if prim.As[prim.Small](first) != 0 {
			return r.term(&c.Kids[1], at)
		}
		return r.term(&c.Kids[2], at)
	case api.CoreSwitch:
		return r.term(chosen(c, first), at)
	}
	return r.rows(c, first, at)
}

// terms are the values of terms, one behind the other.
func (r *runner) terms(l []api.Core, at *scope) []prim.Value {
	values := make([]prim.Value, len(l))
	for i := range l {
		values[i] = r.term(&l[i], at)
	}
	return values
}

// field is a field of a block.
func field(v prim.Value, place int) prim.Value {
	b := prim.As[*prim.Block](v)
	prim.Must(place < len(b.Fields))
	return b.Fields[place]
}

// apply is what a function does with an argument.
func (r *runner) apply(f, arg prim.Value) prim.Value {
	x, is := f.(*function)
	prim.Must(is)
	return r.term(&x.fn.Kids[0], x.known.with(x.fn.Name, arg))
}

// chosen is the kid that a switch goes on with.
func chosen(c *api.Core, v prim.Value) *api.Core {
	number, _ := small(v)
	if place := slices.Index(c.Tags, number); place >= 0 {
		return &c.Kids[place+1]
	}
	return &c.Kids[len(c.Kids)-1]
}

// small is a small number, or the tag of a block, and the block. The run is stuck, if a value is neither.
func small(v prim.Value) (number int, block *prim.Block) {
	switch x := v.(type) {
	case prim.Small:
		return int(x), nil
	case *prim.Block:
		return x.Tag, x
	}
	prim.Must(false)
	return 0, nil
}

// handle is the value of a term, or, if that raises one, what the handler makes of it. What the handler raises is not its own.
func (r *runner) handle(c *api.Core, at *scope) prim.Value {
	v, raised := prim.Try(func() prim.Value { return r.term(&c.Kids[0], at) })
	if raised == nil {
		return v
	}
	return r.term(&c.Kids[1], at.with(c.Name, raised.Value))
}

// rows is what comes of the first row of a case whose shape a value fits, or of its last kid, if there is none.
func (r *runner) rows(c *api.Core, v prim.Value, at *scope) prim.Value {
	for i := range c.Rows {
		if inner, fits := fit(&c.Rows[i].S, v, at, at); fits {
			return r.term(&c.Rows[i].E, inner)
		}
	}
	return r.term(&c.Kids[1], at)
}

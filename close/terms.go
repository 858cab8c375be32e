package close

import (
	"slices"

	"smithy/api"
)

// tail writes a term whose value is what the function returns.
func (w *writer) tail(t *term) {
	switch t.kind {
	case api.CoreApp:
		w.parts(t.kids, w.goes)
	case api.CoreLet, api.CoreRec, api.CoreIf, api.CoreSwitch:
		w.ahead(t, w.tail)
	default:
		w.term(t, w.returns)
	}
}

// term writes a term, and what is gone on with behind its value.
func (w *writer) term(t *term, then next) {
	switch t.kind {
	case api.CoreVar:
		w.variable(t.name, then)
	case api.CoreFn:
		w.closure(t.fn, then)
	case api.CoreApp:
		w.parts(t.kids, func(l []value) { w.let(w.call(l), given(l[0]), then) })
	case api.CoreLet, api.CoreRec:
		w.ahead(t, func(last *term) { w.term(last, then) })
	case api.CoreIf, api.CoreSwitch:
		w.choice(t, then)
	case api.CoreRaise:
		w.term(&t.kids[0], w.raises)
	case api.CoreHandle:
		w.handle(t, then)
	case api.CoreBlock, api.CoreField, api.CorePrim:
		w.parts(t.kids, func(l []value) { w.let(operation(t.core, l), nil, then) })
	default:
		then(value{atom: constant(t.core)})
	}
}

// ahead writes what a term does ahead of the kids of which one has its value; each of these is written as it is told.
func (w *writer) ahead(t *term, each func(*term)) {
	switch t.kind {
	case api.CoreLet:
		w.term(&t.kids[0], func(v value) {
			w.bind(t.name, v, func() { each(&t.kids[1]) })
		})
	case api.CoreRec:
		w.rec(t, each)
	default:
		w.term(&t.kids[0], func(v value) { w.branches(t, v, each) })
	}
}

// branches writes an if or a switch of a value.
func (w *writer) branches(t *term, v value, each func(*term)) {
	f := api.Flow{Kind: api.FlowIf, A: v.atom}
	if t.kind == api.CoreSwitch {
		f.Kind, f.Tags = api.FlowSwitch, append(f.Tags, t.core.Tags...)
	}
	var kids []func()
	for i := range t.kids[1:] {
		kids = append(kids, func() { each(&t.kids[i+1]) })
	}
	w.node(f, kids...)
}

// choice writes an if or a switch whose value is gone on with. Where several of its branches come back they meet behind a try.
func (w *writer) choice(t *term, then next) {
	many := 0
	for i := range t.kids[1:] {
		if t.kids[i+1].back {
			many++
		}
	}
	if many > 1 {
		w.term(&t.kids[0], func(v value) {
			w.try(func() { w.branches(t, v, w.tail) }, w.raises, then)
		})
		return
	}
	w.ahead(t, func(branch *term) {
		if branch.back {
			w.term(branch, then)
		} else {
			w.tail(branch)
		}
	})
}

func (w *writer) handle(t *term, then next) {
	first := func() { w.tail(&t.kids[0]) }
	raised := func(v value) {
		w.bind(t.name, v, func() { w.tail(&t.kids[1]) })
	}
	w.try(first, raised, then)
}

// parts writes terms that are worked out in order, and what is gone on with behind their values.
func (w *writer) parts(l []term, then func([]value)) {
	w.others(l, make([]value, 0, len(l)), then)
}

// others are the parts behind those whose values are there. Those that take no node are gone through by a loop, so that calls are
// nested only as deep as nodes are.
func (w *writer) others(l []term, got []value, then func([]value)) {
	for len(got) < len(l) {
		t := &l[len(got)]
		if !w.isAtHand(t) {
			w.term(t, func(v value) { w.others(l, append(got, v), then) })
			return
		}
		got = append(got, w.atHand(t))
	}
	then(got)
}

// isAtHand tells whether a term's value takes no node.
func (w *writer) isAtHand(t *term) bool {
	switch t.kind {
	case api.CoreVar:
		return w.locals[t.name] != none
	case api.CoreInt, api.CoreSmall, api.CoreReal, api.CoreText, api.CoreExn:
		return true
	}
	return false
}

func (w *writer) atHand(t *term) value {
	if t.kind == api.CoreVar {
		return w.known(t.name)
	}
	return value{atom: constant(t.core)}
}

// constant is the atom of a term that is one.
func constant(c *api.Core) api.Atom {
	switch c.Kind {
	case api.CoreInt:
		return api.Atom{Kind: api.AtomInt, Int: api.Int{Neg: c.Int.Neg, Mag: append([]uint32(nil), c.Int.Mag...)}}
	case api.CoreSmall:
		return api.Atom{Kind: api.AtomSmall, V: c.N}
	case api.CoreReal:
		return api.Atom{Kind: api.AtomReal, Bits: c.Bits}
	case api.CoreText:
		return api.Atom{Kind: api.AtomText, Text: c.Text}
	}
	return api.Atom{Kind: api.AtomExn, V: c.N}
}

// operation is what a block, a field or a primitive does with its kids' values.
func operation(c *api.Core, l []value) api.Op {
	switch c.Kind {
	case api.CoreBlock:
		return api.Op{Kind: api.OpBlock, N: c.N, Args: atoms(l)}
	case api.CoreField:
		return api.Op{Kind: api.OpField, N: c.N, Args: atoms(l)}
	}
	return api.Op{Kind: api.OpPrim, Name: c.Name, Args: atoms(l)}
}

func atoms(l []value) []api.Atom {
	out := slices.Grow([]api.Atom(nil), len(l))
	for i := range l {
		out = append(out, l[i].atom)
	}
	return out
}

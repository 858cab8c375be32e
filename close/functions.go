package close

import "smithy/api"

// known is a name that is in a local. A function of a rec that is still to be made is a small number till it is patched.
func (w *writer) known(name int) value {
	if w.locals[name] == unmade {
		return value{atom: api.Atom{Kind: api.AtomSmall}}
	}
	return value{api.Atom{Kind: api.AtomVar, V: w.locals[name]}, w.of[name]}
}

// variable writes what is gone on with behind a name's value. That is taken from the function's closure where it is needed first on
// the way there, so that a call takes no step for what it doesn't need.
func (w *writer) variable(name int, then next) {
	if w.locals[name] != none {
		then(w.known(name))
		return
	}
	place, is := w.within.places[name]
	if !is {
		return // more is captured than may be: there is no node here, and no such program
	}
	op := api.Op{Kind: api.OpCapture, N: place, Args: []api.Atom{{Kind: api.AtomVar}}}
	w.let(op, w.of[name], func(v value) {
		w.bind(name, v, func() { then(v) })
	})
}

// call applies a value to another one: without asking, if it is known of which function it is.
func (w *writer) call(l []value) api.Op {
	if f := l[0].of; f != nil {
		return api.Op{Kind: api.OpCall, F: w.number(f), Args: atoms(l)}
	}
	return api.Op{Kind: api.OpApply, Args: atoms(l)}
}

// given is the function of which a closure comes of a call, if that is known.
func given(v value) *function {
	if v.of == nil {
		return nil
	}
	return v.of.gives
}

// goes writes a call in the function's place.
func (w *writer) goes(l []value) {
	if f := l[0].of; f != nil {
		w.node(api.Flow{Kind: api.FlowTail, F: w.number(f), Args: atoms(l)})
		return
	}
	w.node(api.Flow{Kind: api.FlowGo, A: l[0].atom, Args: atoms(l[1:])})
}

// closure writes that a closure of a function is made, with what that captures.
func (w *writer) closure(f *function, then next) {
	w.parts(captured(f), func(l []value) {
		w.let(api.Op{Kind: api.OpClosure, F: w.number(f), Args: atoms(l)}, f, then)
	})
}

// captured are the names that a function captures, as variables.
func captured(f *function) []term {
	l := make([]term, len(f.free))
	for i, name := range f.free {
		l[i] = term{kind: api.CoreVar, name: name}
	}
	return l
}

// patch says that a closure has still to be told what a name is, which it has captured at a place.
type patch struct{ closure, place, name int }

// rec makes the functions of a rec one behind the other; what is captured ahead of its being made is patched then.
func (w *writer) rec(t *term, each func(*term)) {
	last := len(t.kids) - 1
	for i := range t.kids[:last] {
		f := t.kids[i].fn
		w.locals[f.self], w.of[f.self] = unmade, f
	}
	w.functions(t.kids[:last], nil, func() { each(&t.kids[last]) })
}

// functions makes functions, and patches all that is to be patched behind the last one.
func (w *writer) functions(l []term, patches []patch, rest func()) {
	if len(l) == 0 {
		w.patched(patches, rest)
		return
	}
	f := l[0].fn
	w.closure(f, func(v value) {
		for place, name := range f.free {
			if w.locals[name] == unmade {
				patches = append(patches, patch{f.self, place, name})
			}
		}
		w.bind(f.self, v, func() { w.functions(l[1:], patches, rest) })
	})
}

func (w *writer) patched(l []patch, rest func()) {
	if len(l) == 0 {
		rest()
		return
	}
	closure, v := w.known(l[0].closure), w.known(l[0].name)
	op := api.Op{Kind: api.OpPatch, N: l[0].place, Args: []api.Atom{closure.atom, v.atom}}
	w.let(op, nil, func(value) { w.patched(l[1:], rest) })
}

package opt

import (
	"smithy/api"
)

// read is a program that may be, as one that can be made smaller: what is reached of it.
func read(p api.Program) *program {
	order, numbers := reached(func(f int) []int { return namedWithin(&p.Funs[f].Body, nil) })
	o := &program{signs: signs()}
	for _, f := range order {
		o.funs = append(o.funs, readFunction(&p.Funs[f], numbers))
	}
	return o
}

// reader reads a function.
type reader struct {
	function
	numbers  map[int]int // of the functions
	unsteady map[int]int // the locals that are, and what numbers they have now
	now      map[int]int // what numbers the locals have at the node that is read
}

func readFunction(f *api.Func, numbers map[int]int) *function {
	r := &reader{numbers: numbers, unsteady: unsteady(f), now: map[int]int{}}
	r.steady = len(r.unsteady) == 0
	for v := range f.Params {
		r.params = append(r.params, r.set(v))
	}
	r.body = r.flow(&f.Body)
	return &r.function
}

// set is the number that a local has from the node on at which it is set.
func (r *reader) set(local int) int {
	number, is := r.unsteady[local]
	if !is {
		number = r.local()
	}
	r.now[local] = number
	return number
}

// setFor reads a node ahead of which a local is set.
func (r *reader) setFor(local int, f *api.Flow) (number int, below *node) {
	was := r.now[local]
	number = r.set(local)
	below = r.flow(f)
	r.now[local] = was
	return number, below
}

// flow reads a node. What nodes of its kind don't use is left behind.
func (r *reader) flow(f *api.Flow) *node {
	n := &node{Flow: api.Flow{Kind: f.Kind}}
	switch f.Kind {
	case api.FlowRet, api.FlowRaise, api.FlowIf:
		n.A = r.atom(f.A)
	case api.FlowSwitch:
		n.A, n.Tags = r.atom(f.A), f.Tags
	case api.FlowTail:
		n.F, n.Args = r.numbers[f.F], r.atoms(f.Args)
	case api.FlowGo:
		n.A, n.Args = r.atom(f.A), r.atoms(f.Args)
	case api.FlowLet:
		n.Op = r.op(&f.Op)
	}
	n.below = make([]*node, len(f.Kids))
	for i := range f.Kids {
		switch {
		case f.Kind == api.FlowLet, f.Kind == api.FlowTry && i == 1:
			n.V, n.below[i] = r.setFor(f.V, &f.Kids[i])
		case f.Kind == api.FlowTry && i == 2:
			n.W, n.below[i] = r.setFor(f.W, &f.Kids[i])
		default:
			n.below[i] = r.flow(&f.Kids[i])
		}
	}
	return n
}

func (r *reader) op(o *api.Op) api.Op {
	out := api.Op{Kind: o.Kind, Args: r.atoms(o.Args)}
	switch o.Kind {
	case api.OpPrim:
		out.Name = o.Name
	case api.OpCall, api.OpClosure:
		out.F = r.numbers[o.F]
	case api.OpBlock, api.OpField, api.OpCapture, api.OpPatch:
		out.N = o.N
	}
	return out
}

func (r *reader) atoms(l []api.Atom) []api.Atom {
	out := make([]api.Atom, len(l))
	for i, a := range l {
		out[i] = r.atom(a)
	}
	return out
}

func (r *reader) atom(a api.Atom) api.Atom {
	out := api.Atom{Kind: a.Kind}
	switch a.Kind {
	case api.AtomVar:
		out.V = r.now[a.V]
	case api.AtomSmall, api.AtomExn:
		out.V = a.V
	case api.AtomInt:
		out.Int = a.Int
	case api.AtomText:
		out.Text = a.Text
	case api.AtomReal:
		out.Bits = a.Bits
	}
	return out
}

// watcher finds the unsteady locals of a function: those that are set ahead of a try, and set again in its first or second kid,
// so that what is read behind that is the one or the other.
type watcher struct {
	deep     map[int]int // in how many such kids the locals were set last, of those that are set
	unsteady map[int]int
}

// unsteady are the unsteady locals of a function, each with a number below 0.
func unsteady(f *api.Func) map[int]int {
	w := &watcher{map[int]int{}, map[int]int{}}
	for v := range f.Params {
		w.deep[v] = 0
	}
	w.flow(&f.Body, 0)
	return w.unsteady
}

func (w *watcher) flow(f *api.Flow, deep int) {
	switch f.Kind {
	case api.FlowLet:
		w.setFor(f.V, &f.Kids[0], deep)
	case api.FlowTry:
		w.flow(&f.Kids[0], deep+1)
		w.setFor(f.V, &f.Kids[1], deep+1)
		w.setFor(f.W, &f.Kids[2], deep)
	default:
		for i := range f.Kids {
			w.flow(&f.Kids[i], deep)
		}
	}
}

// setFor looks at a node ahead of which a local is set.
func (w *watcher) setFor(local int, f *api.Flow, deep int) {
	was, is := w.deep[local]
	if _, known := w.unsteady[local]; is && was < deep && !known {
		w.unsteady[local] = -1 - len(w.unsteady)
	}
	w.deep[local] = deep
	w.flow(f, deep)
	if is {
		w.deep[local] = was
	} else {
		delete(w.deep, local)
	}
}

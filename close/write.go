package close

import (
	"slices"

	"smithy/api"
)

const (
	none   = -1 // the local of a name that is not in one
	unmade = -2 // that of a function of a rec that is still to be made
)

// value is what is at hand when a term has been worked out.
type value struct {
	atom api.Atom
	of   *function // of which it is a closure, if that is known
}

// next writes what is gone on with behind a value. It is called once at most: where several ways lead to it they meet ahead of it.
type next func(value)

// writer writes functions, one behind the other. A row of nodes is written from its beginning on, each of them with what is
// below it: what holds below a node is set ahead of that, and taken back behind it.
type writer struct {
	made   []*function // by their numbers
	of     []*function // by names: of which function each one is a closure, if that is known
	locals []int       // by names: the local in which each one is
	within *function
	at     *api.Flow // where the next node is written
	deep   int       // how many are about that
	used   int       // locals that are in use there
	most   int       // and have been in use somewhere in the function
}

func newWriter(all *function, names int) *writer {
	return &writer{
		made:   []*function{all},
		of:     make([]*function, names),
		locals: slices.Repeat([]int{none}, names),
	}
}

// program is all functions that are reached from the first one, in the order in which they are met.
func (w *writer) program() api.Program {
	var p api.Program
	for i := 0; i < len(w.made); i++ {
		p.Funs = append(p.Funs, w.function(w.made[i]))
	}
	return p
}

// number is a function's number.
func (w *writer) number(f *function) int {
	if f.number == 0 {
		f.number = len(w.made)
		w.made = append(w.made, f)
	}
	return f.number
}

func (w *writer) function(f *function) api.Func {
	var out api.Func
	w.within, w.at, w.most = f, &out.Body, 0
	if f.about == nil {
		w.tail(&f.body)
	} else {
		out.Params = 2
		w.parameter(f.self, f, func() {
			w.parameter(f.param, nil, func() { w.tail(&f.body) })
		})
	}
	out.Locals = w.most
	return out
}

func (w *writer) parameter(name int, of *function, rest func()) {
	w.local(of, func(v value) { w.bind(name, v, rest) })
}

// local lets something be written with a local more in use, which will be a closure of a function, if that is known.
func (w *writer) local(of *function, then next) {
	v := value{api.Atom{Kind: api.AtomVar, V: w.used}, of}
	w.used++
	w.most = max(w.most, w.used)
	then(v)
	w.used--
}

// node writes a node, and its kids. One that would be too deep is left out, so that calls are not nested deeper than nodes may be:
// there is no node in its place then, and no such program may be.
func (w *writer) node(f api.Flow, kids ...func()) {
	if w.deep == api.MaxTerm {
		return
	}
	w.deep++
	if len(kids) > 0 {
		f.Kids = make([]api.Flow, len(kids))
	}
	*w.at = f
	for i, kid := range kids {
		w.at = &f.Kids[i]
		kid()
	}
	w.deep--
}

// let writes an operation, and what is gone on with.
func (w *writer) let(op api.Op, of *function, then next) {
	w.local(of, func(v value) {
		w.node(api.Flow{Kind: api.FlowLet, V: v.atom.V, Op: op}, func() { then(v) })
	})
}

// try writes what is tried first, what is done behind a raise of a value, and what is gone on with.
func (w *writer) try(first func(), raised, then next) {
	w.local(nil, func(v value) {
		f := api.Flow{Kind: api.FlowTry, V: v.atom.V, W: v.atom.V}
		w.node(f, first, func() { raised(v) }, func() { then(v) })
	})
}

// bind lets something be written where a name is a value. A value of a name stands in a local, so that an integer, however long,
// stands there once.
func (w *writer) bind(name int, v value, rest func()) {
	if v.atom.Kind != api.AtomVar {
		op := api.Op{Kind: api.OpAtom, Args: []api.Atom{v.atom}}
		w.let(op, nil, func(v value) { w.bind(name, v, rest) })
		return
	}
	w.locals[name], w.of[name] = v.atom.V, v.of
	rest()
	w.locals[name] = none
}

// returns and raises end a row of nodes.
func (w *writer) returns(v value) { w.node(api.Flow{Kind: api.FlowRet, A: v.atom}) }

func (w *writer) raises(v value) { w.node(api.Flow{Kind: api.FlowRaise, A: v.atom}) }

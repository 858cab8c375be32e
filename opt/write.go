package opt

import (
	"slices"

	"smithy/api"
)

// written is the program as flow.
func (p *program) written() api.Program {
	var out api.Program
	for _, f := range p.funs {
		out.Funs = append(out.Funs, f.written())
	}
	return out
}

// writer writes a function. What it writes has memory of its own, also where nodes have lists in common.
type writer struct {
	numbers map[int]int // those that the locals have in what is written
	many    int         // how many locals there are
}

// written numbers the locals: parameters first, then those that are unsteady, which keep their numbers; each other one is behind
// those that are set on the way to it.
func (f *function) written() api.Func {
	w := &writer{numbers: map[int]int{}}
	for _, v := range f.params {
		w.take(v, w.many)
	}
	f.body.each(func(n *node) {
		for _, v := range n.sets() {
			if _, is := w.numbers[v]; !is && !isSteady(v) {
				w.take(v, w.many)
			}
		}
	})
	body := w.flow(f.body, w.many)
	return api.Func{Params: len(f.params), Locals: w.many, Body: body}
}

// sets are the locals that a node sets.
func (n *node) sets() []int {
	switch n.Kind {
	case api.FlowLet:
		return []int{n.V}
	case api.FlowTry:
		return []int{n.V, n.W}
	}
	return nil
}

// take gives a local a number.
func (w *writer) take(local, number int) {
	w.numbers[local] = number
	w.many = max(w.many, number+1)
}

// setFor writes a node ahead of which a local is set; the next number that is free is told.
func (w *writer) setFor(local int, n *node, free int) (number int, f api.Flow) {
	if isSteady(local) {
		w.take(local, free)
		free++
	}
	return w.numbers[local], w.flow(n, free)
}

func (w *writer) flow(n *node, free int) api.Flow {
	f := api.Flow{Kind: n.Kind, F: n.F, A: w.atom(n.A), Args: w.atoms(n.Args), Op: n.Op, Tags: owned(n.Tags)}
	f.Op.Args = w.atoms(n.Op.Args)
	if len(n.below) > 0 {
		f.Kids = make([]api.Flow, len(n.below))
	}
	for i, kid := range n.below {
		switch {
		case n.Kind == api.FlowLet, n.Kind == api.FlowTry && i == 1:
			f.V, f.Kids[i] = w.setFor(n.V, kid, free)
		case n.Kind == api.FlowTry && i == 2:
			f.W, f.Kids[i] = w.setFor(n.W, kid, free)
		default:
			f.Kids[i] = w.flow(kid, free)
		}
	}
	return f
}

func (w *writer) atoms(l []api.Atom) []api.Atom {
	if len(l) == 0 {
		return nil
	}
	out := make([]api.Atom, len(l))
	for i, a := range l {
		out[i] = w.atom(a)
	}
	return out
}

func (w *writer) atom(a api.Atom) api.Atom {
	if a.Kind == api.AtomVar {
		a.V = w.numbers[a.V]
	}
	a.Int.Mag = owned(a.Int.Mag)
	return a
}

// owned is a list in memory of its own.
func owned[T any](l []T) []T {
	if len(l) == 0 {
		return nil
	}
	return slices.Clone(l)
}

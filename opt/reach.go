package opt

import "smithy/api"

// reached are the functions that are reached from the first one on, in the order in which they are met, and the number that
// each has in it; calls tells which ones a function names.
func reached(calls func(f int) []int) (order []int, numbers map[int]int) {
	numbers = map[int]int{}
	var number func(f int)
	number = func(f int) {
		if _, is := numbers[f]; is {
			return
		}
		numbers[f] = len(order)
		order = append(order, f)
		for _, g := range calls(f) {
			number(g)
		}
	}
	number(0)
	return order, numbers
}

// named is the function that a node names by itself, if it does.
func named(f *api.Flow) (function *int, is bool) {
	switch {
	case f.Kind == api.FlowTail:
		return &f.F, true
	case f.Kind == api.FlowLet && (f.Op.Kind == api.OpCall || f.Op.Kind == api.OpClosure):
		return &f.Op.F, true
	}
	return nil, false
}

// namedWithin are the functions that a body names.
func namedWithin(f *api.Flow, list []int) []int {
	if g, is := named(f); is {
		list = append(list, *g)
	}
	for i := range f.Kids {
		list = namedWithin(&f.Kids[i], list)
	}
	return list
}

// keepReached leaves out the functions that nothing reaches.
func (p *program) keepReached() {
	order, numbers := reached(func(f int) []int {
		var list []int
		p.funs[f].body.each(func(n *node) {
			if g, is := named(&n.Flow); is {
				list = append(list, *g)
			}
		})
		return list
	})
	funs := make([]*function, len(order))
	for i, f := range order {
		funs[i] = p.funs[f]
	}
	p.funs = funs
	p.throughout(func(_ int, n *node) {
		if g, is := named(&n.Flow); is {
			*g = numbers[*g]
		}
	})
}

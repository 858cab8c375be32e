package opt

import "slices"

// callers is how functions are called.
type callers struct {
	places []int  // in how many places each is called by its number
	closed []int  // in how many a closure of it is made
	turns  []bool // it calls itself, or functions that call it in the end
}

func (p *program) callers() callers {
	many := len(p.funs)
	c := callers{make([]int, many), make([]int, many), make([]bool, many)}
	calls := make([][]int, many)
	p.throughout(func(f int, n *node) {
		if g, _, does := n.calls(); does {
			c.places[*g]++
			c.turns[f] = c.turns[f] || *g == f
			calls[f] = append(calls[f], *g)
		} else if n.isClosure() {
			c.closed[n.Op.F]++
		}
	})
	for _, circle := range circles(calls) {
		for _, f := range circle {
			c.turns[f] = c.turns[f] || len(circle) > 1
		}
	}
	return c
}

// isOnce tells whether a function is called in one place, and reached by no other way. So that place is not in itself.
func (c *callers) isOnce(f int) bool { return f != 0 && c.places[f] == 1 && c.closed[f] == 0 }

// circles are the functions by groups: those that call each other in the end are in one.
func circles(calls [][]int) [][]int {
	var out [][]int
	var open []int                  // functions whose group is not yet known, in the order in which they were met
	met := make([]int, len(calls))  // when each was met, from 1 on
	back := make([]int, len(calls)) // when the first of these was met that it leads back to
	done := make([]bool, len(calls))
	order := 0
	var visit func(f int)
	visit = func(f int) {
		order++
		met[f], back[f] = order, order
		at := len(open)
		open = append(open, f)
		for _, g := range calls[f] {
			if met[g] == 0 {
				visit(g)
			}
			if !done[g] {
				back[f] = min(back[f], back[g])
			}
		}
		if back[f] < met[f] {
			return
		}
		for _, g := range open[at:] {
			done[g] = true
		}
		out = append(out, slices.Clone(open[at:]))
		open = open[:at]
	}
	for f := range calls {
		if met[f] == 0 {
			visit(f)
		}
	}
	return out
}

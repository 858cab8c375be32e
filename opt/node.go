package opt

import (
	"slices"

	"smithy/api"
)

// program is one that is being made smaller.
type program struct {
	funs  []*function
	signs map[string]sign
}

// function is one of its functions. Each local of it is set in one place alone, and its number is 0 or more: what is known of it
// there is so wherever it is read. A local that is set again where that may be seen is unsteady: its number is below 0, and
// nothing is ever known of it.
type function struct {
	params []int
	body   *node
	fresh  int  // the next local that is not yet taken
	steady bool // it has no unsteady local
}

// node is a node of flow, whose kids are nodes that may be put elsewhere.
type node struct {
	api.Flow
	below []*node
}

// local is a new local of a function.
func (f *function) local() int {
	f.fresh++
	return f.fresh - 1
}

func isSteady(local int) bool { return local >= 0 }

func variable(local int) api.Atom { return api.Atom{Kind: api.AtomVar, V: local} }

func smallNumber(n int) api.Atom { return api.Atom{Kind: api.AtomSmall, V: n} }

// isLocal tells whether an atom is a steady local.
func isLocal(a api.Atom) bool { return a.Kind == api.AtomVar && isSteady(a.V) }

// longest is how many limbs an integer may have that is put in, or reckoned with: each place where it comes to stand has it
// anew, and reckoning with great ones takes long.
const longest = 8

// isLong tells whether an atom is too long to be put in.
func isLong(a api.Atom) bool { return a.Kind == api.AtomInt && len(a.Int.Mag) > longest }

// isPlain tells whether an atom may be put into the place of a local.
func isPlain(a api.Atom) bool { return !isLong(a) && (a.Kind != api.AtomVar || isSteady(a.V)) }

func arePlain(l []api.Atom) bool {
	return !slices.ContainsFunc(l, func(a api.Atom) bool { return !isPlain(a) })
}

// each goes through a node and all below it.
func (n *node) each(do func(n *node)) {
	do(n)
	for _, kid := range n.below {
		kid.each(do)
	}
}

// throughout goes through the nodes of all functions.
func (p *program) throughout(do func(f int, n *node)) {
	for i, f := range p.funs {
		f.body.each(func(n *node) { do(i, n) })
	}
}

// calls is the function that a node calls by its number, with what arguments.
func (n *node) calls() (function *int, args *[]api.Atom, does bool) {
	switch {
	case n.Kind == api.FlowTail:
		return &n.F, &n.Args, true
	case n.Kind == api.FlowLet && n.Op.Kind == api.OpCall:
		return &n.Op.F, &n.Op.Args, true
	}
	return nil, nil, false
}

// isClosure tells whether a node makes a closure.
func (n *node) isClosure() bool { return n.Kind == api.FlowLet && n.Op.Kind == api.OpClosure }

// widest is how many arguments and tags a node may have that is laid into several places.
const widest = 16

// isHeavy tells whether a node takes so much room that it should not stand in several places.
func (n *node) isHeavy() bool {
	return len(n.Args)+len(n.Op.Args)+len(n.Tags) > widest || isLong(n.A) || slices.ContainsFunc(n.Args, isLong) || slices.ContainsFunc(n.Op.Args, isLong)
}

// raisesAgain tells whether the handler of a try raises what it was given, and does nothing beside that which may be seen.
func (n *node) raisesAgain() bool {
	handler := n.below[1]
	return isSteady(n.V) && handler.Kind == api.FlowRaise && handler.A.Kind == api.AtomVar && handler.A.V == n.V
}

// raiseAgain gives a try a handler that raises again what it is given.
func (f *function) raiseAgain(n *node) {
	n.V = f.local()
	n.below[1] = &node{Flow: api.Flow{Kind: api.FlowRaise, A: variable(n.V)}}
}

package opt

import (
	"slices"

	"smithy/api"
)

// improver goes through a function: on its way down it puts in what is known, and on its way up it leaves out what nothing needs.
type improver struct {
	memory
	*program
	fun     *function
	patched map[patch]struct{}
	reads   map[int]int // how often the steady locals are read, below the node that is gone through
}

// improve goes through all functions.
func (p *program) improve() {
	patched := p.patched()
	for _, f := range p.funs {
		k := &improver{newMemory(), p, f, patched, map[int]int{}}
		f.body = k.flow(f.body)
	}
}

// read counts that atoms are read.
func (k *improver) read(l ...api.Atom) {
	for _, a := range l {
		if isLocal(a) {
			k.reads[a.V]++
		}
	}
}

func (k *improver) flow(n *node) *node {
	n.A = k.atom(n.A)
	k.put(n.Args)
	switch n.Kind {
	case api.FlowLet:
		return k.let(n)
	case api.FlowIf:
		return k.choice(n)
	case api.FlowSwitch:
		return k.switched(n)
	case api.FlowTry:
		return k.try(n)
	case api.FlowGo:
		if f := k.of(n.A); f.sort == aClosure && f.whole {
			n.Flow = api.Flow{Kind: api.FlowTail, F: f.f, Args: []api.Atom{n.A, n.Args[0]}}
		}
	}
	k.read(n.A)
	k.read(n.Args...)
	return n
}

func (k *improver) let(n *node) *node {
	k.reckon(&n.Op)
	if n.Op.Kind == api.OpAtom && isSteady(n.V) && isPlain(n.Op.Args[0]) {
		k.learn(n.V, fact{same: n.Op.Args[0]})
		return k.flow(n.below[0])
	}
	quiet := k.isQuiet(&n.Op)
	k.learnFrom(n)
	n.below[0] = k.flow(n.below[0])
	if quiet && isSteady(n.V) && k.reads[n.V] == 0 {
		return n.below[0]
	}
	k.read(n.Op.Args...)
	return asTail(n)
}

// asTail is a let, or a function in this one's place, if what that returns is returned.
func asTail(n *node) *node {
	next := n.below[0]
	if !isSteady(n.V) || next.Kind != api.FlowRet || next.A.Kind != api.AtomVar || next.A.V != n.V {
		return n
	}
	switch n.Op.Kind {
	case api.OpCall:
		return &node{Flow: api.Flow{Kind: api.FlowTail, F: n.Op.F, Args: n.Op.Args}}
	case api.OpApply:
		return &node{Flow: api.Flow{Kind: api.FlowGo, A: n.Op.Args[0], Args: n.Op.Args[1:]}}
	}
	return n
}

// learnFrom learns what follows of a let's operation having been done.
func (k *improver) learnFrom(n *node) {
	o := &n.Op
	switch o.Kind {
	case api.OpAtom:
		k.learn(n.V, k.of(o.Args[0]))
	case api.OpPrim:
		s := k.signs[o.Name]
		for i, a := range o.Args {
			k.note(a, s.takes[i])
		}
		k.learn(n.V, answers(s))
	case api.OpApply:
		k.note(o.Args[0], aClosure)
	case api.OpBlock:
		k.learn(n.V, fact{sort: aBlock, tagged: true, tag: o.N, parts: plainOnes(o.Args), whole: true})
	case api.OpField:
		k.notePart(o.Args[0], aBlock, o.N, variable(n.V))
	case api.OpClosure:
		k.learn(n.V, fact{sort: aClosure, f: o.F, parts: k.captured(o), whole: true})
	case api.OpCapture:
		k.notePart(o.Args[0], aClosure, o.N, api.Atom{})
	case api.OpPatch:
		k.notePart(o.Args[0], aClosure, o.N, api.Atom{})
		k.learn(n.V, answers(sign{gives: aUnit}))
	}
}

// choice is an if, or what it goes on with.
func (k *improver) choice(n *node) *node {
	f := k.of(n.A)
	switch {
	case f.some:
		return k.flow(n.below[0])
	case isSmall(f.sort) && f.tagged && f.tag == 0:
		return k.flow(n.below[1])
	}
	yes, no := fact{sort: aSmall, some: true}, fact{same: smallNumber(0)}
	if f.sort == aTruth {
		yes = fact{same: smallNumber(1)}
	}
	k.branch(n, 0, yes)
	k.branch(n, 1, no)
	if f.sort == aTruth && isReturn(n.below[0], 1) && isReturn(n.below[1], 0) {
		n = &node{Flow: api.Flow{Kind: api.FlowRet, A: n.A}}
	}
	k.read(n.A)
	return n
}

// branch goes through a kid in which so much is known of the atom by which it was chosen.
func (k *improver) branch(n *node, kid int, f fact) {
	n.below[kid] = k.within(func() *node {
		if isLocal(n.A) {
			k.learn(n.A.V, f)
		}
		return k.flow(n.below[kid])
	})
}

// isReturn tells whether a node returns a small number.
func isReturn(n *node, number int) bool {
	return n.Kind == api.FlowRet && n.A.Kind == api.AtomSmall && n.A.V == number
}

// switched is a switch, or what it goes on with.
func (k *improver) switched(n *node) *node {
	f := k.of(n.A)
	if f.tagged {
		return k.flow(n.below[placeOf(n.Tags, f.tag)])
	}
	if len(n.Tags) == 0 && (isSmall(f.sort) || f.sort == aBlock) {
		return k.flow(n.below[0])
	}
	for i, tag := range n.Tags {
		in := f
		in.tagged, in.tag = true, tag
		if isSmall(f.sort) {
			in = fact{same: smallNumber(tag)}
		}
		k.branch(n, i, in)
	}
	k.branch(n, len(n.Tags), f)
	k.read(n.A)
	return n
}

// placeOf is where a tag stands; behind all of them, if it doesn't.
func placeOf(tags []int, tag int) int {
	if place := slices.Index(tags, tag); place >= 0 {
		return place
	}
	return len(tags)
}

// try is a try, or what is left of it.
func (k *improver) try(n *node) *node {
	n.below[0] = k.within(func() *node { return k.flow(n.below[0]) })
	first := n.below[0]
	switch {
	case first.Kind == api.FlowRet:
		set := api.Op{Kind: api.OpAtom, Args: []api.Atom{first.A}}
		return k.let(&node{Flow: api.Flow{Kind: api.FlowLet, V: n.W, Op: set}, below: n.below[2:]})
	case first.Kind == api.FlowRaise && n.raisesAgain():
		return first
	case first.Kind == api.FlowRaise && isSteady(n.V) && isPlain(first.A):
		k.learn(n.V, fact{same: first.A})
		n.below[0] = n.below[1]
		k.fun.raiseAgain(n)
		return k.try(n)
	}
	n.below[1] = k.within(func() *node { return k.flow(n.below[1]) })
	n.below[2] = k.flow(n.below[2])
	if next := n.below[2]; n.raisesAgain() && isSteady(n.W) && next.Kind == api.FlowRet && next.A.Kind == api.AtomVar && next.A.V == n.W {
		return first
	}
	return n
}

package flow

import (
	"slices"

	"smithy/api"
	"smithy/big"
	"smithy/prim"
)

const (
	smalls        = 1 << 30 // how many small numbers there are, and how many tags
	closureParams = 2       // the closure, and what it is applied to
)

// refused is thrown where a program may not be.
type refused struct{}

// must refuses the program, unless all is well.
func must(well bool) {
	if !well {
		panic(refused{})
	}
}

// checker tells whether a program may be.
type checker struct {
	funs       []api.Func
	primitives map[string]prim.Primitive
	left       int       // nodes that may still be
	within     *api.Func // whose body is looked at
	set        []int     // how many times each of its locals is set about the node that is looked at
}

func newChecker(p api.Program) *checker {
	return &checker{funs: p.Funs, primitives: prim.Primitives(), left: api.MaxCode - len(p.Funs)}
}

// program goes through all functions. Their nodes are counted as they are met, so that it comes to an end where nodes hold
// themselves.
func (k *checker) program() {
	must(len(k.funs) > 0 && k.left >= 0 && k.funs[0].Params == 0)
	k.set = make([]int, k.locals())
	for i := range k.funs {
		k.within = &k.funs[i]
		k.flow(&k.within.Body, 1)
	}
}

// locals is how many locals a function has at most. One row is room for those of all functions: going through a body leaves
// it as it was.
func (k *checker) locals() int {
	most := 0
	for i := range k.funs {
		f := &k.funs[i]
		must(isBelow(f.Params, api.MaxArity+1) && f.Params <= f.Locals && f.Locals <= api.MaxCode)
		most = max(most, f.Locals)
	}
	return most
}

// flow looks at a node that is so deep, and at what stands below it.
func (k *checker) flow(f *api.Flow, deep int) {
	k.left--
	must(k.left >= 0 && deep <= api.MaxTerm && len(f.Kids) == kids(f))
	k.own(f)
	switch f.Kind {
	case api.FlowLet:
		k.below(&f.Kids[0], deep+1, f.V)
	case api.FlowTry:
		k.flow(&f.Kids[0], deep+1)
		k.below(&f.Kids[1], deep+1, f.V)
		k.below(&f.Kids[2], deep+1, f.W)
	default:
		for i := range f.Kids {
			k.flow(&f.Kids[i], deep+1)
		}
	}
}

// below looks at a node ahead of which a local is set.
func (k *checker) below(f *api.Flow, deep, local int) {
	must(isBelow(local, k.within.Locals))
	k.set[local]++
	k.flow(f, deep)
	k.set[local]--
}

// kids is how many kids a node must have; below 0, if there is no such node.
func kids(f *api.Flow) int {
	switch f.Kind {
	case api.FlowRet, api.FlowRaise, api.FlowTail, api.FlowGo:
		return 0
	case api.FlowLet:
		return 1
	case api.FlowIf:
		return 2
	case api.FlowTry:
		return 3
	case api.FlowSwitch:
		return len(f.Tags) + 1
	}
	return -1
}

// own looks at what a node says by itself.
func (k *checker) own(f *api.Flow) {
	switch f.Kind {
	case api.FlowRet, api.FlowRaise, api.FlowIf:
		k.atom(&f.A)
	case api.FlowSwitch:
		k.atom(&f.A)
		must(areTags(f.Tags))
	case api.FlowLet:
		k.op(&f.Op)
	case api.FlowTail:
		k.calls(f.F, len(f.Args))
		k.atoms(f.Args)
	case api.FlowGo:
		must(len(f.Args) == 1)
		k.atom(&f.A)
		k.atoms(f.Args)
	}
}

// op looks at an operation.
func (k *checker) op(o *api.Op) {
	many := len(o.Args)
	switch o.Kind {
	case api.OpAtom:
		must(many == 1)
	case api.OpPrim:
		p, is := k.primitives[o.Name]
		must(is && many == p.Many)
	case api.OpCall:
		k.calls(o.F, many)
	case api.OpApply:
		must(many == 2)
	case api.OpBlock:
		must(isBelow(o.N, smalls) && many <= api.MaxArity)
	case api.OpField, api.OpCapture:
		must(many == 1 && isBelow(o.N, api.MaxArity))
	case api.OpClosure:
		k.calls(o.F, closureParams)
		must(many <= api.MaxArity)
	case api.OpPatch:
		must(many == 2 && isBelow(o.N, api.MaxArity))
	default:
		must(false)
	}
	k.atoms(o.Args)
}

// calls looks at whether there is a function of that number, with so many parameters.
func (k *checker) calls(function, params int) {
	must(isBelow(function, len(k.funs)) && k.funs[function].Params == params)
}

func (k *checker) atoms(l []api.Atom) {
	for i := range l {
		k.atom(&l[i])
	}
}

func (k *checker) atom(a *api.Atom) {
	switch a.Kind {
	case api.AtomVar:
		must(isBelow(a.V, k.within.Locals) && (a.V < k.within.Params || k.set[a.V] > 0))
	case api.AtomInt:
		must(big.Valid(a.Int))
	case api.AtomSmall:
		must(isBelow(a.V, smalls))
	case api.AtomText:
		must(len(a.Text) <= api.MaxString)
	case api.AtomExn:
		must(isBelow(a.V, api.ExnChr+1))
	default:
		must(a.Kind == api.AtomReal)
	}
}

// areTags tells whether tags may be, and are unlike.
func areTags(l []int) bool {
	sorted := slices.Sorted(slices.Values(l))
	for i, tag := range sorted {
		if !isBelow(tag, smalls) || i > 0 && sorted[i-1] == tag {
			return false
		}
	}
	return true
}

func isBelow(n, end int) bool { return n >= 0 && n < end }

package opt

import (
	"slices"

	"smithy/api"
)

// patch is a value that closures of a function have captured, by its place, and that may be patched; f is anyFunction, if it may
// be a closure of whatever function.
type patch struct{ f, n int }

const anyFunction = -1

// patched are the captured values that may be patched anywhere.
func (p *program) patched() map[patch]struct{} {
	out := map[patch]struct{}{}
	for _, f := range p.funs {
		made := map[int]int{}
		f.body.each(func(n *node) {
			if n.isClosure() {
				made[n.V] = n.Op.F
			}
		})
		f.body.each(func(n *node) {
			if n.Kind == api.FlowLet && n.Op.Kind == api.OpPatch {
				out[patch{target(n.Op.Args[0], made), n.Op.N}] = struct{}{}
			}
		})
	}
	return out
}

// target is the function of a closure that is patched, if it is one of those that were made in sight.
func target(a api.Atom, made map[int]int) int {
	if f, is := made[a.V]; is && isLocal(a) {
		return f
	}
	return anyFunction
}

// captured are the values that a new closure has captured, as far as they may be put in elsewhere: those that are patched
// sometime are not known.
func (k *improver) captured(o *api.Op) []api.Atom {
	parts := slices.Clone(plainOnes(o.Args))
	for i := range parts {
		_, here := k.patched[patch{o.F, i}]
		_, anywhere := k.patched[patch{anyFunction, i}]
		if here || anywhere {
			parts[i] = api.Atom{}
		}
	}
	return parts
}

package syntax

import "smithy/api"

// How close a type holds together, the loosest first: each stands without parentheses where its rank is asked for, or
// one ahead of it.
const (
	rankArrow = iota
	rankProduct
	rankApplied
)

func (w *writer) ty(t *api.Type, rank int) {
	w.down()
	free := rankOfType(t) >= rank
	if !free {
		w.words("(")
	}
	w.bareType(t)
	if !free {
		w.words(")")
	}
	w.up()
}

func rankOfType(t *api.Type) int {
	switch {
	case t.Kind == api.TypeArrow:
		return rankArrow
	case isProduct(t):
		return rankProduct
	}
	return rankApplied
}

func isProduct(t *api.Type) bool {
	return t.Kind == api.TypeRecord && len(t.Args) > 0 && isTuple(t.Labels, len(t.Args))
}

func (w *writer) bareType(t *api.Type) {
	switch t.Kind {
	case api.TypeVar:
		w.words(t.Name)
	case api.TypeCon:
		w.typeArgs(t.Args)
		w.words(t.Name)
	case api.TypeArrow:
		w.ty(item(t.Args, 0), rankProduct)
		w.words("->")
		w.ty(item(t.Args, 1), rankArrow)
	case api.TypeRecord:
		if isProduct(t) {
			writeRow(w, t.Args, "*", func(x *api.Type) { w.ty(x, rankApplied) })
			return
		}
		writeFields(w, t.Labels, t.Args, ":", w.wholeType)
	}
}

func (w *writer) wholeType(t *api.Type) { w.ty(t, rankArrow) }

func (w *writer) typeArgs(args []api.Type) {
	switch len(args) {
	case 0:
	case 1:
		w.ty(&args[0], rankApplied)
	default:
		w.words("(")
		writeRow(w, args, ",", w.wholeType)
		w.words(")")
	}
}

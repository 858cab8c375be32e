package types

import (
	"strconv"
	"strings"

	"smithy/api"
)

// How close a type holds together, the loosest first: each stands without parentheses where its rank is asked for, or one
// ahead of it.
const (
	rankArrow = iota
	rankProduct
	rankApplied
)

// writer writes types. What is deeper, or greater, than a type can be is left away, so that it comes to an end.
type writer struct {
	strings.Builder
	left int
}

func (w *writer) ty(t *api.Type, rank, deep int) {
	w.left--
	if w.left < 0 || deep == mostStacked {
		return
	}
	if rankOf(t) >= rank {
		w.bare(t, deep+1)
		return
	}
	w.WriteString("(")
	w.bare(t, deep+1)
	w.WriteString(")")
}

func rankOf(t *api.Type) int {
	switch {
	case t.Kind == api.TypeArrow:
		return rankArrow
	case isProduct(t):
		return rankProduct
	}
	return rankApplied
}

// isProduct tells whether a record's labels are 1, 2 .. and few.
func isProduct(t *api.Type) bool {
	if t.Kind != api.TypeRecord || len(t.Labels) < 2 || len(t.Labels) > 9 {
		return false
	}
	for i, label := range t.Labels {
		if label != strconv.Itoa(i+1) {
			return false
		}
	}
	return true
}

func (w *writer) bare(t *api.Type, deep int) {
	switch {
	case t.Kind == api.TypeArrow:
		w.row(t.Args[:min(1, len(t.Args))], "", rankProduct, deep)
		w.WriteString(" -> ")
		w.row(t.Args[min(1, len(t.Args)):], " -> ", rankArrow, deep)
	case isProduct(t):
		w.row(t.Args, " * ", rankApplied, deep)
	case t.Kind == api.TypeRecord:
		w.record(t, deep)
	default:
		w.arguments(t.Args, deep)
		w.WriteString(t.Name)
	}
}

func (w *writer) row(l []api.Type, between string, rank, deep int) {
	for i := range l {
		if i > 0 {
			w.WriteString(between)
		}
		w.ty(&l[i], rank, deep)
	}
}

func (w *writer) record(t *api.Type, deep int) {
	if len(t.Labels) == 0 {
		w.WriteString("unit")
		return
	}
	w.WriteString("{")
	for i := range min(len(t.Labels), len(t.Args)) {
		if i > 0 {
			w.WriteString(", ")
		}
		w.WriteString(t.Labels[i] + " : ")
		w.ty(&t.Args[i], rankArrow, deep)
	}
	w.WriteString("}")
}

// arguments are those of a constructor of types.
func (w *writer) arguments(l []api.Type, deep int) {
	switch len(l) {
	case 0:
	case 1:
		w.ty(&l[0], rankApplied, deep)
		w.WriteString(" ")
	default:
		w.WriteString("(")
		w.row(l, ", ", rankArrow, deep)
		w.WriteString(") ")
	}
}

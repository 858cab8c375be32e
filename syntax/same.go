package syntax

import (
	"slices"

	"smithy/api"
	"smithy/big"
)

// mostNested is how many rows are looked into, each within the one before: more than there are in anything that is
// promised, so that rows which hold themselves come to an end.
const mostNested = 1 << 17

// sameRow tells whether two rows are the same; left is how many rows may be nested in one another from here on.
func sameRow[T any](a, b []T, left int, same func(x, y *T, left int) bool) bool {
	if len(a) != len(b) {
		return false
	}
	for i := range a {
		if left == 0 || !same(&a[i], &b[i], left-1) {
			return false
		}
	}
	return true
}

func sameDec(a, b *api.Dec, left int) bool {
	return a.Kind == b.Kind && a.Name == b.Name && slices.Equal(a.Names, b.Names) &&
		a.N == b.N && a.Right == b.Right && a.Opaque == b.Opaque &&
		sameRow(a.Pats, b.Pats, left, samePat) &&
		sameRow(a.Exps, b.Exps, left, sameExp) &&
		sameRow(a.Funs, b.Funs, left, sameFun) &&
		sameRow(a.Datas, b.Datas, left, sameData) &&
		sameRow(a.Types, b.Types, left, sameType) &&
		sameRow(a.Decs, b.Decs, left, sameDec) &&
		sameRow(a.Sigs, b.Sigs, left, sameSig) &&
		sameRow(a.Specs, b.Specs, left, sameSpec)
}

func sameFun(a, b *api.Fun, left int) bool {
	return a.Name == b.Name && a.Many == b.Many && sameRow(a.Clauses, b.Clauses, left, sameClause)
}

func sameClause(a, b *api.Clause, left int) bool {
	return sameRow(a.Pats, b.Pats, left, samePat) && sameExp(&a.E, &b.E, left)
}

func sameData(a, b *api.Data, left int) bool {
	return slices.Equal(a.Vars, b.Vars) && a.Name == b.Name && sameRow(a.Cons, b.Cons, left, sameCon)
}

func sameCon(a, b *api.Con, left int) bool {
	return a.Name == b.Name && sameRow(a.Types, b.Types, left, sameType)
}

func sameSig(a, b *api.Sig, left int) bool {
	return a.Name == b.Name && sameRow(a.Specs, b.Specs, left, sameSpec)
}

func sameSpec(a, b *api.Spec, left int) bool {
	return a.Kind == b.Kind && a.Name == b.Name && sameData(&a.Data, &b.Data, left) &&
		sameRow(a.Types, b.Types, left, sameType)
}

func sameExp(a, b *api.Exp, left int) bool {
	return a.Kind == b.Kind && a.Name == b.Name && big.Cmp(a.Int, b.Int) == 0 &&
		a.N == b.N && a.Bits == b.Bits && a.Text == b.Text && slices.Equal(a.Labels, b.Labels) &&
		sameRow(a.Kids, b.Kids, left, sameExp) &&
		sameRow(a.Rules, b.Rules, left, sameRule) &&
		sameRow(a.Decs, b.Decs, left, sameDec) &&
		sameRow(a.Types, b.Types, left, sameType)
}

func sameRule(a, b *api.Rule, left int) bool {
	return samePat(&a.P, &b.P, left) && sameExp(&a.E, &b.E, left)
}

func samePat(a, b *api.Pat, left int) bool {
	return a.Kind == b.Kind && a.Name == b.Name && big.Cmp(a.Int, b.Int) == 0 &&
		a.N == b.N && a.Text == b.Text && slices.Equal(a.Labels, b.Labels) &&
		sameRow(a.Kids, b.Kids, left, samePat) &&
		sameRow(a.Types, b.Types, left, sameType)
}

func sameType(a, b *api.Type, left int) bool {
	return a.Kind == b.Kind && a.Name == b.Name && slices.Equal(a.Labels, b.Labels) &&
		sameRow(a.Args, b.Args, left, sameType)
}

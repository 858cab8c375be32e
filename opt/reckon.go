package opt

import (
	"slices"

	"smithy/api"
	"smithy/big"
)

// reckon puts into an operation what is known; if its answer is known it is an atom then.
func (k *improver) reckon(o *api.Op) {
	k.put(o.Args)
	switch o.Kind {
	case api.OpField:
		k.part(o, aBlock)
	case api.OpCapture:
		k.part(o, aClosure)
	case api.OpApply:
		if f := k.of(o.Args[0]); f.sort == aClosure && f.whole {
			o.Kind, o.F = api.OpCall, f.f
		}
	case api.OpPrim:
		if a, is := k.answer(o); is {
			become(o, a)
		}
	}
}

// become makes an operation an atom.
func become(o *api.Op, a api.Atom) { *o = api.Op{Kind: api.OpAtom, Args: []api.Atom{a}} }

// part makes an operation that takes out a part of a value this part, if it is known.
func (k *improver) part(o *api.Op, sort byte) {
	if f := k.of(o.Args[0]); f.sort == sort && o.N < len(f.parts) && f.parts[o.N].Kind != 0 {
		become(o, k.atom(f.parts[o.N]))
	}
}

// isQuiet tells whether an operation only answers: it may be left out, if nothing needs its answer.
func (k *improver) isQuiet(o *api.Op) bool {
	switch o.Kind {
	case api.OpAtom, api.OpBlock, api.OpClosure:
		return true
	case api.OpField:
		return k.hasPart(o, aBlock)
	case api.OpCapture:
		return k.hasPart(o, aClosure)
	case api.OpPrim:
		return k.isCalm(o)
	}
	return false
}

func (k *improver) hasPart(o *api.Op, sort byte) bool {
	f := k.of(o.Args[0])
	return f.sort == sort && o.N < len(f.parts)
}

// isCalm tells whether a primitive of these arguments only answers.
func (k *improver) isCalm(o *api.Op) bool {
	s := k.signs[o.Name]
	if s.does != isCalm || o.Name == "eq" && !k.areComparable(o.Args) {
		return false
	}
	for i, a := range o.Args {
		if !fits(s.takes[i], k.of(a).sort) {
			return false
		}
	}
	return true
}

// areComparable tells whether two values are known to be of one sort, of which nothing is stuck that asks whether two are the
// same.
func (k *improver) areComparable(l []api.Atom) bool {
	a, b := k.of(l[0]).sort, k.of(l[1]).sort
	switch a {
	case aSmall, aTruth:
		return isSmall(b)
	case anInt, aText, aCell, someBytes:
		return a == b
	}
	return false
}

// answer is what a primitive answers, if that is known.
func (k *improver) answer(o *api.Op) (api.Atom, bool) {
	if o.Name == "eq" {
		return k.equal(o.Args[0], o.Args[1])
	}
	if !arePlain(o.Args) || slices.ContainsFunc(o.Args, isLocal) {
		return api.Atom{}, false
	}
	for i, a := range o.Args {
		if !fits(k.signs[o.Name].takes[i], k.of(a).sort) {
			return api.Atom{}, false
		}
	}
	if a, is := ofIntegers(o.Name, o.Args); is {
		return a, true
	}
	return ofTexts(o.Name, o.Args)
}

// equal is what eq answers, if that is known.
func (k *improver) equal(a, b api.Atom) (api.Atom, bool) {
	f, g := k.of(a), k.of(b)
	switch {
	case isSmall(f.sort) && g.sort == aBlock || f.sort == aBlock && isSmall(g.sort):
		return smallNumber(0), true
	case !k.areComparable([]api.Atom{a, b}):
		return api.Atom{}, false
	case isLocal(a) && isLocal(b) && a.V == b.V:
		return smallNumber(1), true
	case a.Kind != b.Kind:
		return api.Atom{}, false
	case a.Kind == api.AtomInt:
		return truth(big.Cmp(a.Int, b.Int) == 0), true
	case a.Kind == api.AtomText:
		return truth(a.Text == b.Text), true
	case a.Kind == api.AtomSmall, a.Kind == api.AtomExn:
		return truth(a.V == b.V), true
	}
	return api.Atom{}, false
}

func truth(is bool) api.Atom {
	if is {
		return smallNumber(1)
	}
	return smallNumber(0)
}

func integer(a api.Int) (api.Atom, bool) { return api.Atom{Kind: api.AtomInt, Int: a}, true }

func text(s string) (api.Atom, bool) { return api.Atom{Kind: api.AtomText, Text: s}, true }

// ofIntegers is what a primitive of short integers answers, if it raises nothing.
func ofIntegers(name string, l []api.Atom) (api.Atom, bool) {
	a, b := l[0].Int, l[len(l)-1].Int
	switch name {
	case "add":
		return integer(big.Add(a, b))
	case "sub":
		return integer(big.Sub(a, b))
	case "mul":
		return integer(big.Mul(a, b))
	case "neg":
		return integer(big.Neg(a))
	case "div", "mod":
		q, rest, e := big.DivMod(a, b)
		if name == "mod" {
			q = rest
		}
		return api.Atom{Kind: api.AtomInt, Int: q}, e == api.OK
	case "lt":
		return truth(big.Cmp(a, b) < 0), true
	case "le":
		return truth(big.Cmp(a, b) <= 0), true
	case "itext":
		return text(big.Text(a))
	case "chr":
		n, is := below(256, a)
		return smallNumber(n), is
	}
	return api.Atom{}, false
}

// below is an integer, if it is 0 to many - 1.
func below(many int, a api.Int) (int, bool) {
	n, is := big.Int64(a)
	if !is || n < 0 || n >= int64(many) {
		return 0, false
	}
	return int(n), true
}

// longestText is how long a text may be that is worked out.
const longestText = 256

// ofTexts is what a primitive of texts and small numbers answers, if it raises nothing.
func ofTexts(name string, l []api.Atom) (api.Atom, bool) {
	s, t, c, d := l[0].Text, l[len(l)-1].Text, l[0].V, l[len(l)-1].V
	switch name {
	case "cat":
		if len(s)+len(t) <= longestText {
			return text(s + t)
		}
	case "size":
		return integer(big.Of(int64(len(s))))
	case "ssub":
		if i, is := below(len(s), l[1].Int); is {
			return smallNumber(int(s[i])), true
		}
	case "substring":
		if i, is := below(len(s)+1, l[1].Int); is {
			n, is := below(len(s)-i+1, l[2].Int)
			return api.Atom{Kind: api.AtomText, Text: s[i : i+n]}, is
		}
	case "slt":
		return truth(s < t), true
	case "sle":
		return truth(s <= t), true
	case "clt":
		return truth(c < d), true
	case "cle":
		return truth(c <= d), true
	case "ord":
		return integer(big.Of(int64(c)))
	case "str":
		return text(string([]byte{byte(c)}))
	}
	return api.Atom{}, false
}

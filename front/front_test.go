package front_test

import (
	"math/rand"
	"reflect"
	"slices"
	"strconv"
	"strings"
	"testing"

	"smithy/api"
	"smithy/front"
	"smithy/prim"
)

// The order of labels: numbers by their value, ahead of names, these byte by byte.
func TestLabels(t *testing.T) {
	ordered := strings.Fields("1 2 9 10 11 99 100 1000 A AB B a a' a'b a1 ab b x x10 x9")
	for i, a := range ordered {
		for j, b := range ordered {
			got := front.CompareLabels(a, b)
			if got < 0 != (i < j) || got > 0 != (i > j) {
				t.Errorf("%s and %s: %d", a, b, got)
			}
		}
	}
	r := rand.New(rand.NewSource(1))
	for range 100 {
		perm := r.Perm(len(ordered))
		labels := make([]string, len(ordered))
		for i, place := range perm {
			labels[i] = ordered[place]
		}
		kept := slices.Clone(labels)
		if got := front.Places(labels); !reflect.DeepEqual(got, perm) || !reflect.DeepEqual(labels, kept) {
			t.Errorf("%v: %v", labels, got)
		}
	}
	for _, labels := range [][]string{nil, {""}, {"", ""}, {"a", "a", "1", "1"}} {
		got := front.Places(labels)
		slices.Sort(got)
		for i := range labels {
			if got[i] != i {
				t.Errorf("%q: %v", labels, got)
			}
		}
	}
}

// P6.3: the values of chapter 5, and the primitives that they are.
func TestValues(t *testing.T) {
	want := map[string]string{}
	for _, r := range strings.Split(`= eq; <> eq opposite; / rdiv; div div; mod mod; ref ref; print print; exit exit; size size; str str; ord ord; chr chr; ^ cat; ! get; := set
		; inputLine inputline; readFile readfile; writeFile writefile; Int.toString itext; Real.fromInt rfromint; Real.floor rfloor; Real.bits rbits; String.sub ssub; String.substring substring
		; Vector.fromList vector; Vector.sub vsub; Vector.length vlen; Bytes.new bnew; Bytes.get bget; Bytes.put bset; Bytes.length blen
		; +int add; -int sub; *int mul; ~int neg; +real radd; -real rsub; *real rmul; ~real rneg
		; <int lt; <=int le; <real rlt; <=real rle; <char clt; <=char cle; <string slt; <=string sle
		; >int lt turned; >=int le turned; >real rlt turned; >=real rle turned; >char clt turned; >=char cle turned; >string slt turned; >=string sle turned`, ";") {
		name, is, _ := strings.Cut(strings.TrimSpace(r), " ")
		want[name] = is
	}
	primitives := prim.Primitives()
	got := map[string]string{}
	for _, v := range front.Values() {
		name, is := v.Name, v.Primitive
		if v.Structure != "" {
			name = v.Structure + "." + name
		}
		if v.Turned {
			is += " turned"
		}
		if v.Opposite {
			is += " opposite"
		}
		if _, twice := got[name]; twice {
			t.Errorf("%s is there twice", name)
		}
		got[name] = is
		if p, known := primitives[v.Primitive]; !known || p.Many != v.Many {
			t.Errorf("%+v: %d arguments", v, p.Many)
		}
	}
	if !reflect.DeepEqual(got, want) {
		t.Errorf("%v", got)
	}
	all := front.Values()
	all[0] = front.Value{}
	if reflect.DeepEqual(all, front.Values()) {
		t.Error("values that are shared")
	}
}

// nested are expressions, so many in one another.
func nested(n int) api.Exp {
	e := api.Exp{Kind: api.ExpInt}
	for range n - 1 {
		e = api.Exp{Kind: api.ExpRaise, Kids: []api.Exp{e}}
	}
	return e
}

func val(e api.Exp) api.Dec {
	return api.Dec{Kind: api.DecVal, Pats: []api.Pat{{Kind: api.PatWild}}, Exps: []api.Exp{e}}
}

// R1: trees that can be gone through, and those that are too great.
func TestFits(t *testing.T) {
	const most, deepest = 8 * api.MaxSource, 8 * api.MaxDepth
	ring := make([]api.Pat, 2)
	for i := range ring {
		ring[i] = api.Pat{Kids: ring}
	}
	decs := make([]api.Dec, 1)
	decs[0] = api.Dec{Decs: decs}
	rules := make([]api.Rule, 1)
	rules[0].E.Rules = rules
	cons := slices.Repeat([]api.Con{{}}, 1000)
	for i, r := range []struct {
		l  []api.Dec
		is bool
	}{
		{nil, true}, {[]api.Dec{{}}, true}, {[]api.Dec{val(nested(1))}, true},
		{make([]api.Dec, most), true}, {make([]api.Dec, most+1), false},
		{[]api.Dec{val(nested(deepest - 2))}, true}, {[]api.Dec{val(nested(deepest - 1))}, false}, {[]api.Dec{val(nested(deepest + 100))}, false},
		{[]api.Dec{{Exps: make([]api.Exp, most-1)}}, true}, {[]api.Dec{{Exps: make([]api.Exp, most)}}, false}, {[]api.Dec{{Pats: make([]api.Pat, most)}}, false}, {[]api.Dec{{Funs: make([]api.Fun, most)}}, false}, {[]api.Dec{{Datas: make([]api.Data, most)}}, false}, {[]api.Dec{{Decs: make([]api.Dec, most)}}, false},
		{[]api.Dec{{Datas: slices.Repeat([]api.Data{{Cons: cons}}, 500)}}, true}, {[]api.Dec{{Datas: slices.Repeat([]api.Data{{Cons: cons}}, 600)}}, false}, {[]api.Dec{{Funs: []api.Fun{{Clauses: []api.Clause{{Pats: make([]api.Pat, most)}}}}}}, false}, {[]api.Dec{{Funs: []api.Fun{{Clauses: make([]api.Clause, most)}}}}, false},
		{[]api.Dec{{Pats: ring}}, false}, {decs, false}, {[]api.Dec{val(api.Exp{Rules: rules})}, false}, {[]api.Dec{val(api.Exp{Decs: decs})}, false}, {[]api.Dec{{Funs: []api.Fun{{Clauses: []api.Clause{{E: api.Exp{Rules: rules}}}}}}}, false}, {[]api.Dec{val(api.Exp{Rules: []api.Rule{{P: ring[0]}}})}, false},
	} {
		if got := front.Fits(r.l); got != r.is {
			t.Errorf("%s: %v", strconv.Itoa(i), got)
		}
	}
}

package syntax_test

import (
	"cmp"
	"reflect"
	"slices"
	"strings"
	"sync"
	"testing"

	"smithy/api"
	"smithy/syntax"
)

const everything = `infix 6 ++ infixr 5 ** nonfix o
structure S :> sig type ('a, 'b) t = 'a * 'b val f : 'a t -> {a : int} datatype d = A | B of d * d exception E of int end = struct
type ('a, 'b) t = ('a, 'b) u datatype d = A | B of d and 'a v = C of 'a exception E of int
fun f (x ++ y) {a = 1, b = "s"} = let val (z as _, [w]) = x : int list in if a then ~123456789012345678901234567890 else #1 c end
  | f #"c" _ = (case x of 12345678901234567890 => 1.5 | y :: _ => raise S.E | A z => fn _ => 0; while true do [1, 2])
end signature T = sig val x : int end structure U : T = S
val x = a andalso b orelse {a = 1, 2 = (a, b ++ c)} handle E "t" => op ++ x`

// room is where a list lies, with what it may grow into.
type room struct{ from, to uintptr }

// rooms are those of all lists of a tree.
func rooms(x reflect.Value) (out []room) {
	switch x.Kind() {
	case reflect.Slice:
		if x.Cap() > 0 {
			out = append(out, room{x.Pointer(), x.Pointer() + uintptr(x.Cap())*x.Type().Elem().Size()})
		}
		for i := range x.Len() {
			out = append(out, rooms(x.Index(i))...)
		}
	case reflect.Struct:
		for i := range x.NumField() {
			out = append(out, rooms(x.Field(i))...)
		}
	}
	return out
}

// scribbled writes over all that a tree holds.
func scribbled(x reflect.Value) {
	switch x.Kind() {
	case reflect.Slice:
		for i := range x.Len() {
			scribbled(x.Index(i))
		}
		whole := x.Slice3(0, x.Cap(), x.Cap())
		for i := x.Len(); i < x.Cap(); i++ {
			whole.Index(i).SetZero()
		}
	case reflect.Struct:
		for i := range x.NumField() {
			scribbled(x.Field(i))
		}
	case reflect.Int:
		x.SetInt(-1)
	case reflect.Uint32, reflect.Uint64:
		x.SetUint(1 << 31)
	case reflect.String:
		x.SetString("?")
	case reflect.Bool:
		x.SetBool(!x.Bool())
	}
}

// R3: no two lists of an answer, and of two answers, share memory; an empty list is a nil one.
func TestOwnMemory(t *testing.T) {
	a, m := syntax.Parse(everything)
	b, _ := syntax.Parse(everything)
	if m.Code != api.OK {
		t.Fatal(m)
	}
	all := append(rooms(reflect.ValueOf(a)), rooms(reflect.ValueOf(b))...)
	slices.SortFunc(all, func(x, y room) int { return cmp.Compare(x.from, y.from) })
	if len(all) < 150 {
		t.Errorf("%d lists", len(all))
	}
	for i := range all[1:] {
		if all[i].to > all[i+1].from {
			t.Error("two lists share memory")
		}
	}
	scribbled(reflect.ValueOf(a))
	c, _ := syntax.Parse(everything)
	if !reflect.DeepEqual(b, c) || syntax.Same(a, b) {
		t.Error("what is done to one answer is seen in another one")
	}
	for _, list := range [][]api.Dec{b, c} {
		if l := nilLists(reflect.ValueOf(list)); l != "" {
			t.Errorf("an empty list that is not nil in %s", l)
		}
	}
}

// nilLists names a part in which an empty list is no nil one.
func nilLists(x reflect.Value) string {
	switch x.Kind() {
	case reflect.Slice:
		if x.Len() == 0 && !x.IsNil() {
			return x.Type().String()
		}
		for i := range x.Len() {
			if l := nilLists(x.Index(i)); l != "" {
				return l
			}
		}
	case reflect.Struct:
		for i := range x.NumField() {
			if l := nilLists(x.Field(i)); l != "" {
				return x.Type().String() + " " + l
			}
		}
	}
	return ""
}

// R3: what is handed in is not written.
func TestArgumentsStay(t *testing.T) {
	parsed, _ := syntax.Parse(everything)
	for _, l := range [][]api.Dec{parsed, full()} {
		kept := copyOf(l)
		syntax.Print(l)
		syntax.PrintTight(l)
		syntax.Same(l, kept)
		syntax.Same(kept, l)
		if !reflect.DeepEqual(l, kept) {
			t.Error("a tree was written")
		}
	}
}

// R2: with a mishap there are no declarations.
func TestNothingBesideMishaps(t *testing.T) {
	for _, source := range []string{everything + " val", everything + " )", "val x = 1 \x01", everything + " infixr 6 +++ val x = a + b +++ c", everything + " val x = " + strings.Repeat("raise ", 200) + "a"} {
		if l, m := syntax.Parse(source); l != nil || m.Code == api.OK {
			t.Errorf("%d declarations, %v", len(l), m)
		}
	}
}

// R1: nothing of what can be handed in lets a call panic, or go on for ever.
func TestOddTrees(t *testing.T) {
	for k := -1; k < 25; k++ {
		exp := api.Exp{Kind: k}
		for _, e := range []api.Exp{exp, {Kind: k, Kids: []api.Exp{exp}}, {Kind: k, Rules: []api.Rule{{}}, Labels: []string{"1", "2", "3"}}, {Kind: k, N: -1000, Name: "(*", Kids: []api.Exp{exp, {Kind: api.ExpRecord, Labels: []string{"1", "2"}}}}} {
			odd(t, api.Dec{Kind: api.DecVal, Exps: []api.Exp{e}})
			odd(t, api.Dec{Kind: api.DecFun, Funs: []api.Fun{{Many: 7}, {Clauses: []api.Clause{{E: e}}}}})
			odd(t, api.Dec{Kind: api.DecVal, Exps: []api.Exp{app(v("+"), api.Exp{Kind: api.ExpRecord, Labels: []string{"1", "2"}, Kids: []api.Exp{e}})}})
		}
		pat := api.Pat{Kind: k}
		for _, p := range []api.Pat{pat, {Kind: k, Kids: []api.Pat{pat}}, {Kind: k, Name: "::", Kids: []api.Pat{{Kind: api.PatRecord, Labels: []string{"1", "2"}}}}} {
			odd(t, api.Dec{Kind: api.DecVal, Pats: []api.Pat{p}})
		}
		typ := api.Type{Kind: k}
		for _, x := range []api.Type{typ, {Kind: k, Args: []api.Type{typ}}, {Kind: k, Args: []api.Type{typ, typ, typ}}, {Kind: k, Labels: []string{"1", "2"}}} {
			odd(t, api.Dec{Kind: api.DecExn, Types: []api.Type{x}})
		}
		odd(t, api.Dec{Kind: k})
		odd(t, api.Dec{Kind: k, Names: []string{"", "=", "("}, N: 1 << 40, Datas: []api.Data{{}}, Specs: []api.Spec{{Kind: k}}, Sigs: []api.Sig{{}}, Decs: []api.Dec{{Kind: k}}})
	}
	for _, bits := range []uint64{0x7FF8000000000000, 0xFFF8000000000001, 1<<64 - 1} {
		odd(t, val(wild(), api.Exp{Kind: api.ExpReal, Bits: bits}))
	}
	odd(t, full()...)
}

func odd(t *testing.T, l ...api.Dec) {
	t.Helper()
	text := syntax.Print(l)
	syntax.Parse(text)
	syntax.PrintTight(l)
	if !syntax.Same(l, copyOf(l)) || syntax.Same(l, nil) {
		t.Errorf("%+v is not the same as it is", l)
	}
}

// R1: trees that hold themselves, or whose parts are told without end.
func TestRings(t *testing.T) {
	exps := make([]api.Exp, 2)
	for i := range exps {
		exps[i] = api.Exp{Kind: api.ExpList, Kids: exps, Rules: []api.Rule{{E: api.Exp{Kind: api.ExpApp, Kids: exps}}}}
	}
	pats := make([]api.Pat, 2)
	for i := range pats {
		pats[i] = api.Pat{Kind: api.PatRecord, Labels: numbers(2), Kids: pats}
	}
	types := make([]api.Type, 2)
	for i := range types {
		types[i] = api.Type{Kind: api.TypeArrow, Args: types}
	}
	apps := make([]api.Exp, 2)
	for i, kind := range []int{api.ExpApp, api.ExpOr} {
		apps[i] = api.Exp{Kind: kind, Kids: apps}
	}
	cons := make([]api.Type, 1)
	cons[0] = api.Type{Kind: api.TypeCon, Name: "t", Args: cons}
	typed := make([]api.Pat, 1)
	typed[0] = api.Pat{Kind: api.PatTyped, Kids: typed, Types: cons}
	decs := make([]api.Dec, 1)
	decs[0] = api.Dec{Kind: api.DecStruct, Decs: decs}
	wide := v("x")
	for range 190 {
		wide = app(wide, wide)
	}
	for _, l := range [][]api.Dec{
		{{Kind: api.DecVal, Exps: exps}}, {{Kind: api.DecVal, Pats: pats}}, {{Kind: api.DecExn, Types: types}}, decs,
		{val(wild(), api.Exp{Kind: api.ExpCase, Rules: exps[0].Rules})},
		{val(wild(), apps[0])}, {val(wild(), apps[1])}, {val(typed[0], num(1))}, {exn("E", cons...)},
	} {
		syntax.Print(l)
		syntax.Same(l, l)
	}
	syntax.Print([]api.Dec{val(wild(), wide)})
}

// R4: calls from several hands at the same time.
func TestManyHands(t *testing.T) {
	want, _ := syntax.Parse(everything)
	printed := syntax.Print(want)
	var hands sync.WaitGroup
	for range 8 {
		hands.Go(func() {
			for range 20 {
				l, m := syntax.Parse(everything)
				if m.Code != api.OK || syntax.Print(l) != printed || !syntax.Same(l, want) {
					t.Error("another answer")
				}
				if _, m := syntax.Parse("infixr 6 ++ val x = a + b ++ c"); m.At != 26 {
					t.Error(m)
				}
			}
		})
	}
	hands.Wait()
}

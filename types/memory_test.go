package types_test

import (
	"cmp"
	"reflect"
	"runtime"
	"slices"
	"sync"
	"testing"

	"smithy/api"
	"smithy/types"
)

// room is where a list lies, with what it may grow into.
type room struct{ from, to uintptr }

// rooms are those of all lists of a tree.
func rooms(x reflect.Value) (out []room) {
	switch x.Kind() {
	case reflect.Slice:
		if x.Cap() > 0 {
			out = append(out, room{x.Pointer(), x.Pointer() + uintptr(x.Cap())*x.Type().Elem().Size()})
		}
		for i := range x.Len() {
			out = append(out, rooms(x.Index(i))...)
		}
	case reflect.Struct:
		for i := range x.NumField() {
			out = append(out, rooms(x.Field(i))...)
		}
	}
	return out
}

// emptyLists names a part in which an empty list is no nil one.
func emptyLists(x reflect.Value) string {
	switch x.Kind() {
	case reflect.Slice:
		if x.Len() == 0 && !x.IsNil() {
			return x.Type().String()
		}
		for i := range x.Len() {
			if l := emptyLists(x.Index(i)); l != "" {
				return l
			}
		}
	case reflect.Struct:
		for i := range x.NumField() {
			if l := emptyLists(x.Field(i)); l != "" {
				return x.Type().String() + " " + l
			}
		}
	}
	return ""
}

// R3: lists of what was handed in, of one answer and of two share no memory; an empty list is a nil one.
func TestOwnMemory(t *testing.T) {
	l := parsed(t, everything)
	all := rooms(reflect.ValueOf(l))
	held := []any{l} // memory that nothing holds may be given to a later answer
	for range 2 {
		decs, values, e := types.Infer(l)
		if e != api.OK {
			t.Fatal(e)
		}
		held = append(held, decs, values)
		for _, x := range []reflect.Value{reflect.ValueOf(decs), reflect.ValueOf(values)} {
			all = append(all, rooms(x)...)
			if l := emptyLists(x); l != "" {
				t.Errorf("an empty list that is not nil in %s", l)
			}
		}
	}
	slices.SortFunc(all, func(x, y room) int { return cmp.Compare(x.from, y.from) })
	if len(all) < 600 {
		t.Errorf("%d lists", len(all))
	}
	for i := range all[1:] {
		if all[i].to > all[i+1].from {
			t.Error("two lists share memory")
		}
	}
	runtime.KeepAlive(held)
}

// R3: an empty list that was handed in is a nil one in the answer.
func TestEmptyLists(t *testing.T) {
	none := api.Exp{Kind: api.ExpRecord, Labels: []string{}, Kids: []api.Exp{}, Rules: []api.Rule{}, Decs: []api.Dec{}, Types: []api.Type{}, Int: api.Int{Mag: []uint32{}}}
	decs, values, e := types.Infer([]api.Dec{{Kind: api.DecVal, Names: []string{}, Pats: []api.Pat{{Kind: api.PatVar, Name: "x", Kids: []api.Pat{}}}, Exps: []api.Exp{none}, Funs: []api.Fun{}, Specs: []api.Spec{}}})
	if e != api.OK || len(decs) != 1 || lines(values) != "x : unit" {
		t.Fatalf("%v %+v %+v", e, decs, values)
	}
	if l := emptyLists(reflect.ValueOf(decs)) + emptyLists(reflect.ValueOf(values)); l != "" {
		t.Errorf("an empty list that is not nil in %s", l)
	}
	if decs, values, e := types.Infer([]api.Dec{}); decs != nil || values != nil || e != api.OK {
		t.Errorf("%v %v %v", decs, values, e)
	}
}

// R3: what is handed in is not written, whatever comes of it.
func TestArgumentsStay(t *testing.T) {
	for _, program := range append(programs(), everything, everything+" val x = 1 + true", "val (A, x) = (1, 2) val y = x + #a {a = 1}", "datatype t = A val A = A val z = 1 + #b {a = 2}") {
		l, kept := parsed(t, program), parsed(t, program)
		_, values, _ := types.Infer(l)
		for _, v := range values {
			types.Text(v.Type)
		}
		if !reflect.DeepEqual(l, kept) {
			t.Errorf("%s: the tree was written", program)
		}
	}
}

// R2: with an error there are neither declarations nor values.
func TestNothingBesideErrors(t *testing.T) {
	for _, program := range []string{everything + " val x = 1 + true", "val x = 1 val y = x + true", everything + " structure Z : sig val x : int end = struct end", "val f = #a"} {
		if decs, values, e := types.Infer(parsed(t, program)); e != api.ErrType || decs != nil || values != nil {
			t.Errorf("%v, %d declarations, %d values", e, len(decs), len(values))
		}
	}
}

// R4: calls from several hands at the same time.
func TestManyHands(t *testing.T) {
	l := parsed(t, everything)
	want, values, _ := types.Infer(l)
	var hands sync.WaitGroup
	for range 8 {
		mine := parsed(t, everything)
		hands.Go(func() {
			for range 20 {
				decs, v, e := types.Infer(mine)
				if e != api.OK || !reflect.DeepEqual(decs, want) || lines(v) != lines(values) {
					t.Error("another answer")
				}
			}
		})
	}
	hands.Wait()
}

// odd holds a tree that may be no program against R1 and R2; only faults are thrown within.
func odd(t *testing.T, l ...api.Dec) {
	t.Helper()
	decs, values, e := types.Infer(l)
	if e != api.OK && (e != api.ErrType || decs != nil || values != nil) {
		t.Errorf("%+v: %v, %d declarations, %d values", l, e, len(decs), len(values))
	}
	if thrown, isFault := types.Thrown(l); thrown != nil && !isFault {
		t.Errorf("%+v: throws %v", l, thrown)
	}
}

// R1: nothing of what can be handed in lets a call panic.
func TestOddTrees(t *testing.T) {
	for k := -1; k < 25; k++ {
		for _, name := range []string{"", "x", "A.b", ".x", "nil"} {
			typ := api.Type{Kind: k, Name: name}
			for _, x := range []api.Type{typ, {Kind: k, Name: name, Args: []api.Type{typ}}, {Kind: k, Args: []api.Type{typ, typ, typ}}, {Kind: k, Labels: []string{"1", "2"}}, {Kind: k, Labels: []string{"", ""}, Args: []api.Type{typ, typ}}} {
				oddType(t, k, name, x)
			}
			pat := api.Pat{Kind: k, Name: name}
			for _, p := range []api.Pat{pat, {Kind: k, Name: name, Kids: []api.Pat{pat}}, {Kind: k, Name: "::", Kids: []api.Pat{pat, pat}}, {Kind: k, Labels: []string{"a"}}, {Kind: k, Kids: []api.Pat{pat}, Types: []api.Type{typ}}} {
				oddPat(t, name, p)
			}
			exp := api.Exp{Kind: k, Name: name}
			for _, e := range []api.Exp{exp, {Kind: k, Name: name, Kids: []api.Exp{exp}}, {Kind: k, Kids: []api.Exp{exp, exp}}, {Kind: k, Kids: []api.Exp{exp, exp, exp}, Rules: []api.Rule{{}}, Labels: []string{"1", "2", "3"}}, {Kind: k, Rules: []api.Rule{{P: pat, E: exp}}, Decs: []api.Dec{{Kind: k}}, Types: []api.Type{typ}}} {
				oddExp(t, e)
			}
			oddDec(t, k, name)
		}
	}
}

func oddType(t *testing.T, k int, name string, x api.Type) {
	t.Helper()
	odd(t, api.Dec{Kind: api.DecExn, Name: name, Types: []api.Type{x}})
	odd(t, api.Dec{Kind: api.DecExn, Name: name, Types: []api.Type{x, x}})
	odd(t, api.Dec{Kind: api.DecType, Datas: []api.Data{{Name: name, Vars: []string{"x"}}}, Types: []api.Type{x}})
	odd(t, api.Dec{Kind: api.DecData, Datas: []api.Data{{Name: name, Vars: []string{"", "x"}, Cons: []api.Con{{Name: name, Types: []api.Type{x}}}}}})
	odd(t, api.Dec{Kind: api.DecSig, Name: name, Specs: []api.Spec{{Kind: k % 6, Name: name, Types: []api.Type{x}, Data: api.Data{Cons: []api.Con{{Types: []api.Type{x}}}}}}})
	odd(t, api.Dec{Kind: api.DecVal, Pats: []api.Pat{{Kind: api.PatTyped, Kids: []api.Pat{{Kind: api.PatWild}}, Types: []api.Type{x}}}, Exps: []api.Exp{{Kind: api.ExpInt}}})
	odd(t, api.Dec{Kind: api.DecVal, Pats: []api.Pat{{Kind: api.PatWild}}, Exps: []api.Exp{{Kind: api.ExpTyped, Kids: []api.Exp{{Kind: api.ExpInt}}, Types: []api.Type{x}}}})
}

func oddPat(t *testing.T, name string, p api.Pat) {
	t.Helper()
	e := api.Exp{Kind: api.ExpInt}
	odd(t, api.Dec{Kind: api.DecVal, Pats: []api.Pat{p}, Exps: []api.Exp{e}})
	odd(t, api.Dec{Kind: api.DecVal, Pats: []api.Pat{p, p}})
	odd(t, api.Dec{Kind: api.DecFun, Funs: []api.Fun{{Name: name, Many: 2, Clauses: []api.Clause{{Pats: []api.Pat{p, p}, E: e}}}}})
	odd(t, api.Dec{Kind: api.DecFun, Funs: []api.Fun{{Name: name, Many: 2, Clauses: []api.Clause{{Pats: []api.Pat{p}, E: e}}}}})
}

func oddExp(t *testing.T, e api.Exp) {
	t.Helper()
	odd(t, api.Dec{Kind: api.DecVal, Exps: []api.Exp{e}})
	odd(t, api.Dec{Kind: api.DecVal, Pats: []api.Pat{{Kind: api.PatWild}}, Exps: []api.Exp{e}})
	odd(t, api.Dec{Kind: api.DecVal, Pats: []api.Pat{{Kind: api.PatWild}}, Exps: []api.Exp{{Kind: api.ExpApp, Kids: []api.Exp{e, e}}}})
	odd(t, api.Dec{Kind: api.DecFun, Funs: []api.Fun{{Many: -7}, {Clauses: []api.Clause{{E: e}}}}})
	odd(t, api.Dec{Kind: api.DecFun, Funs: []api.Fun{{Many: 1 << 60, Clauses: []api.Clause{{E: e}}}}})
	odd(t, api.Dec{Kind: api.DecFun, Funs: []api.Fun{{}}})
}

func oddDec(t *testing.T, k int, name string) {
	t.Helper()
	odd(t, api.Dec{Kind: k, Name: name})
	odd(t, api.Dec{Kind: k, Name: name, Names: []string{name}, Sigs: []api.Sig{{Name: name}}})
	odd(t, api.Dec{Kind: k, Name: name, Names: []string{"Int"}, Sigs: []api.Sig{{Specs: []api.Spec{{Kind: k}}}}})
	odd(t, api.Dec{Kind: k, Name: name, Names: []string{"", "=", "("}, N: 1 << 40, Datas: []api.Data{{}}, Specs: []api.Spec{{Kind: k}}, Sigs: []api.Sig{{}}, Decs: []api.Dec{{Kind: k}}})
	odd(t, api.Dec{Kind: k, Datas: []api.Data{{Vars: []string{"'a"}, Cons: []api.Con{{}, {}}}, {}}, Specs: []api.Spec{{Kind: k, Data: api.Data{Cons: []api.Con{{}}}}}, Sigs: []api.Sig{{}, {}}})
}

// R1: trees that hold themselves, or whose parts are told without end.
func TestRings(t *testing.T) {
	exps := make([]api.Exp, 2)
	for i := range exps {
		exps[i] = api.Exp{Kind: api.ExpList, Kids: exps, Rules: []api.Rule{{E: api.Exp{Kind: api.ExpApp, Kids: exps}}}}
	}
	pats := make([]api.Pat, 2)
	for i := range pats {
		pats[i] = api.Pat{Kind: api.PatList, Kids: pats}
	}
	list := make([]api.Type, 2)
	for i := range list {
		list[i] = api.Type{Kind: api.TypeArrow, Args: list}
	}
	one := make([]api.Type, 1)
	one[0] = api.Type{Kind: api.TypeCon, Name: "list", Args: one}
	decs := make([]api.Dec, 1)
	decs[0] = api.Dec{Kind: api.DecStruct, Name: "S", Decs: decs}
	wide := api.Exp{Kind: api.ExpInt}
	for range 190 {
		wide = api.Exp{Kind: api.ExpList, Kids: []api.Exp{wide, wide}}
	}
	wild := []api.Pat{{Kind: api.PatWild}}
	for _, d := range []api.Dec{
		{Kind: api.DecVal, Pats: wild, Exps: exps[:1]}, {Kind: api.DecVal, Pats: pats[:1], Exps: []api.Exp{{Kind: api.ExpInt}}},
		{Kind: api.DecExn, Types: list[:1]}, {Kind: api.DecExn, Types: one}, decs[0], {Kind: api.DecVal, Pats: wild, Exps: []api.Exp{wide}},
		{Kind: api.DecInfix, Types: one}, {Kind: api.DecSig, Specs: []api.Spec{{Kind: api.SpecVal, Types: list[:1]}}},
	} {
		if _, _, e := types.Infer([]api.Dec{d}); e != api.ErrType {
			t.Errorf("%d: %v", d.Kind, e)
		}
	}
}

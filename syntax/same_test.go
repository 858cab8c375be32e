package syntax_test

import (
	"reflect"
	"testing"

	"smithy/api"
	"smithy/syntax"
)

// full is declarations in which every field of every kind of part says something.
func full() []api.Dec {
	i := func(n uint32) api.Int { return api.Int{Neg: true, Mag: []uint32{n, 1}} }
	types := []api.Type{{Kind: 1, Name: "t", Args: []api.Type{{Kind: 2, Name: "u"}}, Labels: []string{"a"}}}
	pats := []api.Pat{{Kind: 1, Name: "p", Int: i(1), N: 2, Text: "t", Labels: []string{"a"}, Kids: []api.Pat{{Kind: 3, Int: i(7)}}, Types: types}}
	datas := []api.Data{{Vars: []string{"'a"}, Name: "d", Cons: []api.Con{{Name: "C", Types: types}}}}
	specs := []api.Spec{{Kind: 1, Name: "s", Data: datas[0], Types: types}}
	exp := api.Exp{Kind: 1, Name: "e", Int: i(2), N: 3, Bits: 4, Text: "t", Labels: []string{"a"}, Kids: []api.Exp{{Kind: 5, Int: i(7)}}, Decs: []api.Dec{{Kind: 6}}, Types: types}
	exp.Rules = []api.Rule{{P: pats[0], E: exp}}
	funs := []api.Fun{{Name: "f", Many: 1, Clauses: []api.Clause{{Pats: pats, E: exp}}}}
	return []api.Dec{{Kind: 1, Name: "d", Names: []string{"n"}, N: 1, Right: true, Opaque: true, Pats: pats, Exps: []api.Exp{exp}, Funs: funs,
		Datas: datas, Types: types, Decs: []api.Dec{{Kind: 2}}, Sigs: []api.Sig{{Name: "s", Specs: specs}}, Specs: specs}}
}

// copied is a tree of its own memory.
func copied(x reflect.Value) reflect.Value {
	out := reflect.New(x.Type()).Elem()
	switch x.Kind() {
	case reflect.Slice:
		if x.IsNil() {
			return out
		}
		out.Set(reflect.MakeSlice(x.Type(), x.Len(), x.Len()))
		for i := range x.Len() {
			out.Index(i).Set(copied(x.Index(i)))
		}
	case reflect.Struct:
		for i := range x.NumField() {
			out.Field(i).Set(copied(x.Field(i)))
		}
	default:
		out.Set(x)
	}
	return out
}

func copyOf(l []api.Dec) []api.Dec { return copied(reflect.ValueOf(l)).Interface().([]api.Dec) }

// changes calls try with each way in which one field of a tree can be another one.
func changes(x reflect.Value, try func(what string)) {
	switch x.Kind() {
	case reflect.Struct:
		for i := range x.NumField() {
			changes(x.Field(i), func(what string) { try(x.Type().Name() + "." + x.Type().Field(i).Name + what) })
		}
	case reflect.Slice:
		old := reflect.ValueOf(x.Interface())
		for i := range x.Len() {
			changes(x.Index(i), try)
		}
		x.Set(reflect.Append(old.Slice3(0, old.Len(), old.Len()), reflect.ValueOf(differs(x.Type().Elem()))))
		try(" longer")
		if old.Len() > 0 {
			x.Set(old.Slice(0, old.Len()-1))
			try(" shorter")
		}
		x.Set(old)
	default:
		old := reflect.ValueOf(x.Interface())
		switch x.Kind() {
		case reflect.Int:
			x.SetInt(old.Int() + 1)
		case reflect.Uint32, reflect.Uint64:
			x.SetUint(old.Uint() + 1)
		case reflect.String:
			x.SetString(old.String() + "x")
		case reflect.Bool:
			x.SetBool(!old.Bool())
		}
		try("")
		x.Set(old)
	}
}

// differs is a thing of a type that makes a list another one (a limb of 0 would not).
func differs(t reflect.Type) any {
	if t.Kind() == reflect.Uint32 {
		return uint32(1)
	}
	return reflect.Zero(t).Interface()
}

// P4.3: two trees that differ in one field each are not the same.
func TestSameFieldByField(t *testing.T) {
	a, b := full(), copyOf(full())
	if !syntax.Same(a, b) || !syntax.Same(b, a) {
		t.Fatal("a copy differs")
	}
	tried := 0
	changes(reflect.ValueOf(&b).Elem(), func(what string) {
		tried++
		if syntax.Same(a, b) || syntax.Same(b, a) {
			t.Errorf("another %s, and the same", what)
		}
	})
	if tried < 400 || !syntax.Same(a, b) {
		t.Errorf("%d fields tried", tried)
	}
}

// P4.3: integers count by their value; an empty list is a nil one.
func TestSameValues(t *testing.T) {
	with := func(n api.Int) []api.Dec {
		return []api.Dec{val(api.Pat{Kind: api.PatInt, Int: n}, api.Exp{Kind: api.ExpInt, Int: n})}
	}
	for _, x := range []struct {
		a, b api.Int
		same bool
	}{
		{api.Int{Mag: []uint32{5}}, api.Int{Mag: []uint32{5, 0, 0}}, true},
		{api.Int{}, api.Int{Neg: true}, true},
		{api.Int{}, api.Int{Neg: true, Mag: []uint32{0, 0}}, true},
		{api.Int{}, api.Int{Mag: []uint32{}}, true},
		{api.Int{Mag: []uint32{5}}, api.Int{Neg: true, Mag: []uint32{5}}, false},
		{api.Int{Mag: []uint32{5}}, api.Int{Mag: []uint32{0, 5}}, false},
	} {
		if syntax.Same(with(x.a), with(x.b)) != x.same || syntax.Same(with(x.b), with(x.a)) != x.same {
			t.Errorf("%+v and %+v", x.a, x.b)
		}
	}
	empty := api.Dec{Names: []string{}, Pats: []api.Pat{}, Exps: []api.Exp{}, Funs: []api.Fun{}, Datas: []api.Data{}, Types: []api.Type{}, Decs: []api.Dec{}, Sigs: []api.Sig{}, Specs: []api.Spec{}}
	if !syntax.Same([]api.Dec{empty}, []api.Dec{{}}) || !syntax.Same([]api.Dec{}, nil) || !syntax.Same(nil, nil) {
		t.Error("an empty list is another one")
	}
	if syntax.Same(nil, []api.Dec{{}}) || syntax.Same([]api.Dec{{}}, nil) {
		t.Error("no list is one of one thing")
	}
	a, _ := syntax.Parse("val x = (1 + 2, [3]); val y = 4")
	for source, same := range map[string]bool{
		"val (x) = ((1) + (* *) 2,\n[(3)]) val y = 04;;": true, "val x = {1 = op + (1, 2), 2 = [3]} val y = 4": true,
		"val x = (1 + 2, [3])": false, "val x = (1 + 2, 3) val y = 4": false, "val y = 4 val x = (1 + 2, [3])": false,
	} {
		if b, m := syntax.Parse(source); m.Code != api.OK || syntax.Same(a, b) != same {
			t.Errorf("%q: %v", source, m)
		}
	}
}

// P4.3: trees that are nested as deep as anything that is promised of.
func TestSameDeep(t *testing.T) {
	deep := func(leaf string) []api.Dec {
		e := v(leaf)
		for range 1<<16 - 2 {
			e = raise(e)
		}
		return []api.Dec{val(pvar("x"), e)}
	}
	if !syntax.Same(deep("a"), deep("a")) || syntax.Same(deep("a"), deep("b")) {
		t.Error("expressions")
	}
	funs := func(leaf string) []api.Dec {
		e := v(leaf)
		for range (1<<16 - 2) / 2 {
			e = let(v("y"), fun(clauses("f", clause(e, pvar("x")))))
		}
		return []api.Dec{val(pvar("x"), e)}
	}
	if !syntax.Same(funs("a"), funs("a")) || syntax.Same(funs("a"), funs("b")) {
		t.Error("functions")
	}
}

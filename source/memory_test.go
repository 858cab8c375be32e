package source_test

import (
	"math/rand"
	"reflect"
	"sync"
	"testing"

	"smithy/api"
	"smithy/source"
)

// everything is a program with all that there is.
const everything = `infix 6 ++ infixr 5 ** nonfix o exception E of int exception F
signature T = sig type t datatype 'a d = A | B of 'a * t exception G of t val x : t val f : 'a -> 'a list end
structure S :> T = struct type t = int * bool datatype 'a d = A | B of 'a * t exception G of t val x = (~123456789012345678901234567890, true) fun f y = [y] structure In = struct val p = 1 end end
structure U = S datatype ('a, 'b) w = W of {a : 'a, b : 'b} | V
fun op ++ (x, y) = x + y and op ** (a, b) = if a < b then a else ~ a
fun h {a = 1, b = "s"} #"c" = let val (z as _, [w]) = (1 : int, [true]) exception H of int in while !(ref false) do z; z end
  | h _ _ = (case U.x of y => #a {a = 1 ++ 2, b = y}; 3) handle F => 4 | E n => n | e => raise e
val n = h {b = "s", a = 1} #"c" ++ h {a = 2, b = ""} #"d" ** 4
val k = fn nil => V | x :: _ => W x val W {a = p, b = q} = k [{a = 1, b = 2.5}]
val l = (#2 (1, "a" <= "b"), 1.5 > 2.5 andalso true orelse false, [Real.floor q]) val v = Vector.fromList [1, 2] val b = Bytes.new 2
val _ = (print (Int.toString n ^ inputLine ()); writeFile ("g", readFile "f"); Bytes.put (b, 0, Vector.sub (v, 1)); raise E (Bytes.get (b, 0))) handle E n => print (String.substring ("abc", 0, n)) | S.G _ => ()
val _ = if S.f 1 = [1] then exit (p + 2) else raise F`

func TestEverything(t *testing.T) {
	out := outcome(t, typed(t, everything), theWorld(), 2000)
	want := []api.Event{{Kind: api.EventOut, Text: "~4one\n"}, {Kind: api.EventWrite, Name: "g", Text: "data"}, {Kind: api.EventOut, Text: "ab"}}
	if !reflect.DeepEqual(out, api.Outcome{Status: api.Exited, Code: 3, Trace: want}) {
		t.Errorf("%+v", out)
	}
}

// R3: what is handed in is not written; what is answered shares no memory with another answer.
func TestOwnMemory(t *testing.T) {
	l, kept := typed(t, everything), typed(t, everything)
	w, keptWorld := theWorld(), theWorld()
	first := outcome(t, l, w, 2000)
	for fuel := range 200 {
		outcome(t, l, w, fuel)
	}
	second := outcome(t, l, w, 2000)
	if !reflect.DeepEqual(l, kept) || !reflect.DeepEqual(w, keptWorld) {
		t.Error("what was handed in was written")
	}
	if !reflect.DeepEqual(first, second) {
		t.Errorf("%+v and then %+v", first, second)
	}
	for i := range second.Trace {
		second.Trace[i] = api.Event{}
	}
	if third := outcome(t, l, w, 2000); !reflect.DeepEqual(first, third) {
		t.Errorf("%+v and then %+v", first, third)
	}
	first = outcome(t, l, w, 2000)
	for i := range w.Files {
		w.Files[i] = api.File{}
	}
	if third := outcome(t, kept, keptWorld, 2000); !reflect.DeepEqual(first, third) {
		t.Errorf("%+v and then %+v", first, third)
	}
}

// R3: an empty list is a nil one.
func TestEmptyTrace(t *testing.T) {
	for _, program := range []string{"", `val _ = print ""`, "val _ = exit 3", "val _ = 1"} {
		if out := outcome(t, typed(t, program), api.World{Files: []api.File{}}, 100); out.Trace != nil {
			t.Errorf("%s: %#v", program, out.Trace)
		}
	}
}

// R4: calls from several hands at the same time.
func TestManyHands(t *testing.T) {
	want := outcome(t, typed(t, everything), theWorld(), 2000)
	var hands sync.WaitGroup
	for range 8 {
		l := typed(t, everything)
		hands.Go(func() {
			for range 20 {
				if out, e := source.Run(l, theWorld(), 2000); e != api.OK || !reflect.DeepEqual(out, want) {
					t.Errorf("%+v, %v", out, e)
				}
			}
		})
	}
	hands.Wait()
}

// odd holds a tree that may be no program against R1: something comes of it, and nothing is thrown within but what a run
// may throw.
func odd(t *testing.T, fuel int, l ...api.Dec) api.Outcome {
	small := api.World{Stdin: "one\ntwo", Files: []api.File{{Name: "f", Data: "data"}}}
	t.Helper()
	out, e := source.Run(l, small, fuel)
	if e != api.OK || out.Status < api.Running || out.Status > api.Stuck || out.Code < 0 || out.Code > 255 || out.Code != 0 && out.Status != api.Exited {
		t.Errorf("%+v: %+v, %v", l, out, e)
	}
	if thrown, may := source.Thrown(l, small, fuel); !may {
		t.Errorf("%+v: throws %v", l, thrown)
	}
	return out
}

// R1: nothing of what can be handed in lets a call panic.
func TestOddTrees(t *testing.T) {
	stuck := 0
	for k := -1; k < 25; k++ {
		for _, name := range []string{"", "x", "S.b", ".x", "x.", "nil", "Int.toString", "Int", "::", "Div", "=", "+int"} {
			pat, exp := api.Pat{Kind: k, Name: name}, api.Exp{Kind: k, Name: name}
			one := api.Exp{Kind: api.ExpInt, Int: api.Int{Neg: true, Mag: []uint32{0, 0}}}
			for _, p := range []api.Pat{pat, {Kind: k, Name: name, Kids: []api.Pat{pat}}, {Kind: k, Name: name, Kids: []api.Pat{pat, pat}}, {Kind: k, Name: name, Labels: []string{"a"}}, {Kind: k, Labels: []string{"", "1"}, Kids: []api.Pat{pat, pat}}} {
				for _, e := range []api.Exp{one, {Kind: api.ExpRecord}, {Kind: api.ExpRecord, Labels: []string{"a", "1"}, Kids: []api.Exp{one, one}}, {Kind: api.ExpList, Kids: []api.Exp{one, one}}, {Kind: api.ExpVar, Name: "Div"}, {Kind: api.ExpVar, Name: "nil"}, {Kind: api.ExpText}, {Kind: api.ExpFn}} {
					odd(t, 50, api.Dec{Kind: api.DecVal, Pats: []api.Pat{p}, Exps: []api.Exp{e}})
					odd(t, 50, api.Dec{Kind: api.DecFun, Funs: []api.Fun{{Name: "f", Many: 1, Clauses: []api.Clause{{Pats: []api.Pat{p}, E: e}}}}},
						api.Dec{Kind: api.DecVal, Pats: []api.Pat{{Kind: api.PatWild}}, Exps: []api.Exp{{Kind: api.ExpApp, Kids: []api.Exp{{Kind: api.ExpVar, Name: "f"}, e}}}})
				}
			}
			for _, e := range []api.Exp{exp, {Kind: k, Name: name, Kids: []api.Exp{exp}}, {Kind: k, Kids: []api.Exp{exp, one}}, {Kind: k, N: -1, Kids: []api.Exp{{Kind: api.ExpSelect, N: 9}, {Kind: api.ExpRecord}}}, {Kind: k, Kids: []api.Exp{exp, exp, exp}, Rules: []api.Rule{{}}, Labels: []string{"1", "2", "3"}},
				{Kind: k, Rules: []api.Rule{{P: pat, E: exp}}, Decs: []api.Dec{{Kind: k}}, Kids: []api.Exp{one}}} {
				out := odd(t, 50, api.Dec{Kind: api.DecVal, Pats: []api.Pat{{Kind: api.PatWild}}, Exps: []api.Exp{e}})
				if out.Status == api.Stuck {
					stuck++
				}
			}
			for _, d := range []api.Dec{{Kind: k, Name: name}, {Kind: k, Name: name, Names: []string{name}}, {Kind: k, Names: []string{"", "="}, Funs: []api.Fun{{}, {Many: -3}}, Datas: []api.Data{{}, {Cons: []api.Con{{}}}}, Decs: []api.Dec{{Kind: k}}}, {Kind: k, Pats: []api.Pat{pat}}, {Kind: k, Exps: []api.Exp{exp}}} {
				odd(t, 50, d, d)
			}
		}
	}
	if stuck < 1000 {
		t.Errorf("%d are stuck", stuck)
	}
	for many := range 4 {
		f := api.Fun{Name: "f", Many: many, Clauses: []api.Clause{{Pats: []api.Pat{{Kind: api.PatWild}}, E: api.Exp{Kind: api.ExpVar, Name: "f"}}, {}}}
		call := api.Exp{Kind: api.ExpVar, Name: "f"}
		for range 5 {
			call = api.Exp{Kind: api.ExpApp, Kids: []api.Exp{call, call}}
		}
		odd(t, 1000, api.Dec{Kind: api.DecFun, Funs: []api.Fun{f}}, api.Dec{Kind: api.DecVal, Pats: []api.Pat{{Kind: api.PatWild}}, Exps: []api.Exp{call}})
	}
}

// R1: trees that hold themselves, or that are told without end.
func TestRings(t *testing.T) {
	exps := make([]api.Exp, 2)
	for i := range exps {
		exps[i] = api.Exp{Kind: api.ExpList, Kids: exps, Rules: []api.Rule{{E: api.Exp{Kind: api.ExpApp, Kids: exps}}}}
	}
	pats := make([]api.Pat, 1)
	pats[0] = api.Pat{Kind: api.PatAs, Name: "x", Kids: pats}
	pairs := make([]api.Pat, 2)
	for i := range pairs {
		pairs[i] = api.Pat{Kind: api.PatRecord, Labels: []string{"1", "2"}, Kids: pairs}
	}
	decs := make([]api.Dec, 1)
	decs[0] = api.Dec{Kind: api.DecStruct, Name: "S", Decs: decs}
	two := make([]api.Dec, 2)
	for i := range two {
		two[i] = api.Dec{Kind: api.DecStruct, Name: "S", Decs: two}
	}
	wide, wider := api.Pat{Kind: api.PatWild}, api.Dec{Kind: api.DecStruct, Name: "S"}
	for range 100 {
		wide = api.Pat{Kind: api.PatRecord, Labels: []string{"1", "2"}, Kids: []api.Pat{wide, wide}}
		wider = api.Dec{Kind: api.DecStruct, Name: "S", Decs: []api.Dec{wider, wider}}
	}
	one := []api.Exp{{Kind: api.ExpInt}}
	for i, l := range [][]api.Dec{
		{{Kind: api.DecVal, Pats: []api.Pat{{Kind: api.PatWild}}, Exps: exps[:1]}}, {{Kind: api.DecVal, Pats: pats, Exps: one}}, {{Kind: api.DecVal, Pats: pairs[:1], Exps: one}}, decs, two, {wider}, {{Kind: api.DecVal, Pats: []api.Pat{wide}, Exps: one}},
		{{Kind: api.DecFun, Funs: []api.Fun{{Clauses: []api.Clause{{E: exps[0]}}}}}}, {{Kind: api.DecVal, Exps: []api.Exp{{Kind: api.ExpLet, Decs: two}}}},
	} {
		if out := odd(t, api.MaxFuel, l...); out.Status != api.Stuck {
			t.Errorf("%d: %+v", i, out)
		}
	}
}

// R1: programs of which parts were changed at random.
func TestChangedTrees(t *testing.T) {
	m := &maker{Rand: rand.New(rand.NewSource(8))}
	var ends [3]int
	for i := range 3000 {
		program := everything
		if i%3 > 0 {
			program = m.program()
		}
		l := parsedOnly(t, program)
		for range 1 + m.Intn(4) {
			m.change(reflect.ValueOf(&l).Elem())
		}
		ends[odd(t, m.Intn(100), l...).Status]++
	}
	if ends[api.Running] < 100 || ends[api.Exited] < 100 || ends[api.Stuck] < 100 {
		t.Errorf("%v", ends)
	}
}

// change writes something else into some part of a tree.
func (m *maker) change(x reflect.Value) {
	switch x.Kind() {
	case reflect.Slice:
		switch {
		case x.Len() == 0:
			if m.Intn(3) == 0 {
				x.Set(reflect.MakeSlice(x.Type(), 1, 1))
			}
		case m.Intn(12) == 0:
			x.Set(x.Slice(m.Intn(x.Len()), x.Len()))
		case m.Intn(12) == 0:
			x.Set(reflect.AppendSlice(reflect.MakeSlice(x.Type(), 0, 1), x))
			x.Set(reflect.Append(x, x.Index(0)))
		default:
			m.change(x.Index(m.Intn(x.Len())))
		}
	case reflect.Struct:
		for range 3 { // most fields are empty ones
			if f := x.Field(m.Intn(x.NumField())); f.Kind() == reflect.Slice && f.Len() > 0 || m.Intn(4) == 0 {
				m.change(f)
				return
			}
		}
	case reflect.Int:
		x.SetInt(int64(m.Intn(24) - 1))
	case reflect.String:
		x.SetString(m.one("x1", "S", "S.x", "nil", "Div", "E", "", "1", "+real", "Int"))
	}
}

package elab_test

import (
	"math"
	"math/rand"
	"reflect"
	"slices"
	"strconv"
	"strings"
	"sync"
	"testing"

	"smithy/api"
	"smithy/core"
	"smithy/elab"
	"smithy/syntax"
	"smithy/types"
)

// everything is a program with all that there is.
const everything = `infix 6 ++ infixr 5 ** nonfix o exception E of int exception F
signature T = sig type t datatype 'a d = A | B of 'a * t exception G of t val x : t val f : 'a -> 'a list end
structure S :> T = struct type t = int * bool datatype 'a d = A | B of 'a * t exception G of t val x = (~123456789012345678901234567890, true) fun f y = [y] structure In = struct val p = 1 end end
structure U = S datatype ('a, 'b) w = W of {a : 'a, b : 'b} | V
fun op ++ (x, y) = x + y and op ** (a, b) = if a < b then a else ~ a
fun h {a = 1, b = "s"} #"c" = let val (z as _, [w]) = (1 : int, [true]) exception H of int in while !(ref false) do z; z end
  | h _ _ = (case U.x of y => #a {a = 1 ++ 2, b = y}; 3) handle F => 4 | E n => n | e => raise e
val n = h {b = "s", a = 1} #"c" ++ h {a = 2, b = ""} #"d" ** 4
val k = fn nil => V | x :: _ => W x val W {a = p, b = q} = k [{a = 1, b = 2.5}]
val l = (#2 (1, "a" <= "b"), 1.5 > 2.5 andalso true orelse false, [Real.floor q]) val v = Vector.fromList [1, 2] val b = Bytes.new 2
val _ = (print (Int.toString n ^ inputLine ()); writeFile ("g", readFile "f"); Bytes.put (b, 0, Vector.sub (v, 1)); raise E (Bytes.get (b, 0))) handle E n => print (String.substring ("abc", 0, n)) | S.G _ => () | Chr => ()
val u = ((), fn () => op +, fn 123456789012345678901 => 987654321098765432109 | n => n, {b = print "1", a = print "2"}, [op >, op <>], [] : int list)
val _ = if S.f 1 = [1] then exit (p + 2) else raise F`

func TestEverything(t *testing.T) {
	l := typed(t, everything)
	out := alike(t, l, made(t, l), theWorld(), 400, api.MaxFuel)
	want := []api.Event{{Kind: api.EventOut, Text: "~4one\n"}, {Kind: api.EventWrite, Name: "g", Text: "data"}, {Kind: api.EventOut, Text: "ab12"}}
	if !reflect.DeepEqual(out, api.Outcome{Status: api.Exited, Code: 3, Trace: want}) {
		t.Errorf("%+v", out)
	}
}

// memory is a piece of it.
type memory struct{ from, to uintptr }

// held is all memory that the lists of something lie in, with the room behind them.
func held(t *testing.T, x reflect.Value, list []memory) []memory {
	switch x.Kind() {
	case reflect.Slice:
		if !x.IsNil() && x.Len() == 0 {
			t.Error("an empty list that is not nil")
		}
		if n := uintptr(x.Cap()) * x.Type().Elem().Size(); n > 0 {
			list = append(list, memory{x.Pointer(), x.Pointer() + n})
		}
		for i := range x.Len() {
			list = held(t, x.Index(i), list)
		}
	case reflect.Struct:
		for i := range x.NumField() {
			list = held(t, x.Field(i), list)
		}
	}
	return list
}

// shared tells whether two pieces of memory lie in one another.
func shared(l []memory) bool {
	slices.SortFunc(l, func(a, b memory) int { return int(int64(a.from) - int64(b.from)) })
	for i := range l[1:] {
		if l[i].to > l[i+1].from {
			return true
		}
	}
	return false
}

// R3: what is handed in is not written; what is answered shares no memory with it, with another answer, or with itself; an
// empty list is a nil one. R4: the same program has the same term.
func TestOwnMemory(t *testing.T) {
	w := &writer{Rand: rand.New(rand.NewSource(4))}
	for i := range 200 {
		program := everything
		if i > 0 {
			program = w.program()
		}
		l, is := inferred(t, program)
		if !is {
			continue
		}
		kept, _ := inferred(t, program)
		first, second := made(t, l), made(t, l)
		if !reflect.DeepEqual(l, kept) {
			t.Fatalf("%s\nwas written", program)
		}
		if other := made(t, kept); !reflect.DeepEqual(first, second) || !reflect.DeepEqual(first, other) {
			t.Fatalf("%s\nhas several terms", program)
		}
		all := held(t, reflect.ValueOf(l), nil)
		all = held(t, reflect.ValueOf(first), all)
		all = held(t, reflect.ValueOf(second), all)
		if shared(all) {
			t.Fatalf("%s\nshares memory with its term", program)
		}
	}
}

// R4: calls from several hands at the same time.
func TestManyHands(t *testing.T) {
	want := made(t, typed(t, everything))
	var hands sync.WaitGroup
	for range 8 {
		l := typed(t, everything)
		hands.Go(func() {
			for range 20 {
				if c, e := elab.Core(l); e != api.OK || !reflect.DeepEqual(c, want) {
					t.Error("another term", e)
				}
			}
		})
	}
	hands.Wait()
}

// odd holds a tree that may be no program against P8.2: it has a term that may be, or ErrCore and the zero term.
func odd(t *testing.T, l ...api.Dec) bool {
	t.Helper()
	c, e := elab.Core(l)
	if e == api.OK {
		if core.Check(c) != api.OK {
			t.Errorf("%+v: a term that may not be", l)
		}
		return true
	}
	if e != api.ErrCore || !reflect.DeepEqual(c, api.Core{}) {
		t.Errorf("%+v: %v, %+v", l, e, c)
	}
	return false
}

// valOf is a val of an expression.
func valOf(p api.Pat, e api.Exp) api.Dec {
	return api.Dec{Kind: api.DecVal, Pats: []api.Pat{p}, Exps: []api.Exp{e}}
}

// P8.2, R1: nothing of what can be handed in lets a call panic.
func TestOddTrees(t *testing.T) {
	terms, none := 0, 0
	count := func(is bool) {
		if is {
			terms++
		} else {
			none++
		}
	}
	count(odd(t))
	for k := -1; k < 25; k++ {
		for _, name := range []string{"", "x", "S.b", ".x", "x.", ".", "nil", "Int.toString", "Int", "::", "Div", "=", "+int", strings.Repeat("long", 1000)} {
			for _, n := range []int{math.MinInt, -1, 0, 1024, math.MaxInt} {
				pat, exp := api.Pat{Kind: k, Name: name, N: n, Int: api.Int{Neg: true, Mag: []uint32{0, 0}}}, api.Exp{Kind: k, Name: name, N: n, Int: api.Int{Neg: true, Mag: []uint32{0, 0}}}
				one := api.Exp{Kind: api.ExpInt}
				for _, p := range []api.Pat{pat, {Kind: k, Name: name, Kids: []api.Pat{pat}}, {Kind: k, Name: name, Kids: []api.Pat{pat, pat}}, {Kind: k, Name: name, Labels: []string{"a"}}, {Kind: k, Labels: []string{"", "1"}, Kids: []api.Pat{pat, pat}}, {Kind: k, Labels: []string{"a", "a"}, Kids: []api.Pat{{Kind: api.PatVar, Name: name}, {Kind: api.PatVar, Name: name}}}} {
					count(odd(t, valOf(p, one)))
					count(odd(t, valOf(api.Pat{Kind: api.PatList, Kids: []api.Pat{p, p}}, one)))
					count(odd(t, api.Dec{Kind: api.DecFun, Funs: []api.Fun{{Name: name, Many: 1, Clauses: []api.Clause{{Pats: []api.Pat{p}, E: exp}}}}}))
					count(odd(t, api.Dec{Kind: api.DecFun, Funs: []api.Fun{{Name: name, Many: 2, Clauses: []api.Clause{{Pats: []api.Pat{p, p}, E: one}, {Pats: []api.Pat{pat, p}, E: one}}}, {Name: name, Many: n}}}))
				}
				for _, e := range []api.Exp{exp, {Kind: k, Name: name, Kids: []api.Exp{exp}}, {Kind: k, Kids: []api.Exp{exp, one}}, {Kind: k, N: n, Kids: []api.Exp{{Kind: api.ExpSelect, N: n}, {Kind: api.ExpRecord}}}, {Kind: k, Kids: []api.Exp{exp, exp, exp}, Rules: []api.Rule{{}}, Labels: []string{"1", "2", "3"}},
					{Kind: k, Rules: []api.Rule{{P: pat, E: exp}}, Decs: []api.Dec{{Kind: k}}, Kids: []api.Exp{one}}, {Kind: k, Kids: []api.Exp{{Kind: api.ExpVar, Name: name}, one}}, {Kind: k, Kids: []api.Exp{one}}, {Kind: k, Rules: []api.Rule{}}, {Kind: api.ExpApp, Kids: []api.Exp{{Kind: api.ExpTyped, Kids: []api.Exp{exp}}, exp}}} {
					count(odd(t, valOf(api.Pat{Kind: api.PatWild}, e)))
				}
			}
			for _, d := range []api.Dec{{Kind: k, Name: name}, {Kind: k, Name: name, Names: []string{name}}, {Kind: k, Names: []string{"", "="}, Funs: []api.Fun{{}, {Many: -3}}, Datas: []api.Data{{}, {Cons: []api.Con{{}, {Name: name, Types: []api.Type{{}, {}}}}}}, Decs: []api.Dec{{Kind: k}}}, {Kind: k, Pats: []api.Pat{{}}}, {Kind: k, Exps: []api.Exp{{}}}} {
				count(odd(t, d, d))
				count(odd(t, api.Dec{Kind: api.DecStruct, Name: name, Decs: []api.Dec{d}}, valOf(api.Pat{Kind: api.PatVar, Name: name}, api.Exp{Kind: api.ExpVar, Name: name})))
			}
		}
	}
	if terms < 1000 || none < 1000 {
		t.Errorf("%d terms, %d refused", terms, none)
	}
}

// P8.2, R1: trees that hold themselves, or that are told without end, are refused.
func TestRings(t *testing.T) {
	exps := make([]api.Exp, 2)
	for i := range exps {
		exps[i] = api.Exp{Kind: api.ExpList, Kids: exps, Rules: []api.Rule{{E: api.Exp{Kind: api.ExpApp, Kids: exps}}}}
	}
	pats := make([]api.Pat, 1)
	pats[0] = api.Pat{Kind: api.PatAs, Name: "x", Kids: pats}
	pairs := make([]api.Pat, 2)
	for i := range pairs {
		pairs[i] = api.Pat{Kind: api.PatRecord, Labels: []string{"1", "2"}, Kids: pairs}
	}
	decs := make([]api.Dec, 1)
	decs[0] = api.Dec{Kind: api.DecStruct, Name: "S", Decs: decs}
	two := make([]api.Dec, 2)
	for i := range two {
		two[i] = api.Dec{Kind: api.DecStruct, Name: "S", Decs: two}
	}
	lets := make([]api.Exp, 1)
	lets[0] = api.Exp{Kind: api.ExpLet, Decs: []api.Dec{{Kind: api.DecVal, Pats: []api.Pat{{Kind: api.PatWild}}, Exps: lets}}, Kids: lets}
	wide, wider := api.Pat{Kind: api.PatWild}, api.Dec{Kind: api.DecStruct, Name: "S"}
	for range 100 {
		wide = api.Pat{Kind: api.PatRecord, Labels: []string{"1", "2"}, Kids: []api.Pat{wide, wide}}
		wider = api.Dec{Kind: api.DecStruct, Name: "S", Decs: []api.Dec{wider, wider}}
	}
	one := []api.Exp{{Kind: api.ExpInt}}
	for i, l := range [][]api.Dec{
		{{Kind: api.DecVal, Pats: []api.Pat{{Kind: api.PatWild}}, Exps: exps[:1]}}, {{Kind: api.DecVal, Pats: pats, Exps: one}}, {{Kind: api.DecVal, Pats: pairs[:1], Exps: one}}, decs, two, {wider}, {{Kind: api.DecVal, Pats: []api.Pat{wide}, Exps: one}},
		{{Kind: api.DecFun, Funs: []api.Fun{{Clauses: []api.Clause{{E: exps[0]}}}}}}, {{Kind: api.DecVal, Exps: []api.Exp{{Kind: api.ExpLet, Decs: two}}}}, {{Kind: api.DecVal, Pats: []api.Pat{{Kind: api.PatWild}}, Exps: lets}},
	} {
		if odd(t, l...) {
			t.Errorf("%d is not refused", i)
		}
	}
}

// P8.2, R1: trees of very many parts, or of numbers that say so.
func TestGreatTrees(t *testing.T) {
	t.Parallel()
	repeated := func(n int, d api.Dec) []api.Dec { return slices.Repeat([]api.Dec{d}, n) }
	fun := func(many int) api.Dec {
		return api.Dec{Kind: api.DecFun, Funs: slices.Repeat([]api.Fun{{Name: "f", Many: many}}, 100000)}
	}
	greater := api.Exp{Kind: api.ExpVar, Name: ">int"}
	wild := api.Pat{Kind: api.PatWild}
	let := api.Exp{Kind: api.ExpLet, Decs: repeated(30, api.Dec{Kind: api.DecNonfix}), Kids: []api.Exp{{Kind: api.ExpInt}}}
	for i, r := range []struct {
		l  []api.Dec
		is bool
	}{
		{repeated(15000, api.Dec{Kind: api.DecInfix}), true}, {repeated(15000, api.Dec{Kind: api.DecStruct, Name: "S"}), true}, {repeated(400000, api.Dec{Kind: api.DecNonfix}), false}, {repeated(400000, api.Dec{Kind: api.DecStruct, Name: "S"}), false}, {repeated(3000000, api.Dec{Kind: api.DecType}), false},
		{repeated(9900, valOf(wild, api.Exp{Kind: api.ExpInt})), true}, {repeated(10100, valOf(wild, api.Exp{Kind: api.ExpInt})), false}, {repeated(100000, valOf(wild, api.Exp{Kind: api.ExpInt})), false}, {repeated(150000, api.Dec{Kind: api.DecExn, Name: strings.Repeat("E", 100000)}), false},
		{[]api.Dec{fun(1024)}, false}, {[]api.Dec{fun(math.MaxInt)}, false}, {[]api.Dec{fun(math.MinInt)}, false},
		{[]api.Dec{valOf(wild, api.Exp{Kind: api.ExpList, Kids: slices.Repeat([]api.Exp{greater}, 400000)})}, false}, {[]api.Dec{valOf(wild, api.Exp{Kind: api.ExpSeq, Kids: slices.Repeat([]api.Exp{greater}, 1000)})}, true}, {[]api.Dec{valOf(wild, api.Exp{Kind: api.ExpSeq, Kids: slices.Repeat([]api.Exp{let}, 1000)})}, true},
		{[]api.Dec{valOf(wild, api.Exp{Kind: api.ExpText, Text: strings.Repeat("a", api.MaxString)})}, true}, {[]api.Dec{valOf(wild, api.Exp{Kind: api.ExpText, Text: strings.Repeat("a", api.MaxString+1)})}, false},
		{[]api.Dec{valOf(wild, api.Exp{Kind: api.ExpChar, N: 1<<30 - 1})}, true}, {[]api.Dec{valOf(wild, api.Exp{Kind: api.ExpChar, N: 1 << 30})}, false}, {[]api.Dec{valOf(wild, api.Exp{Kind: api.ExpChar, N: -1})}, false},
	} {
		if odd(t, r.l...) != r.is {
			t.Errorf("%d: refused %v", i, r.is)
		}
	}
}

// P8.2, R1: programs of which parts were changed at random.
func TestChangedTrees(t *testing.T) {
	t.Parallel()
	m := &writer{Rand: rand.New(rand.NewSource(9))}
	terms, none := 0, 0
	for i := range 2000 {
		program := everything
		if i%3 > 0 {
			program = m.program()
		}
		l, mishap := syntax.Parse(program)
		if mishap.Code != api.OK {
			t.Fatal(mishap)
		}
		if with, _, e := types.Infer(l); e == api.OK {
			l = with
		}
		for range 1 + m.Intn(4) {
			m.change(reflect.ValueOf(&l).Elem())
		}
		if odd(t, l...) {
			terms++
		} else {
			none++
		}
	}
	if terms < 200 || none < 200 {
		t.Errorf("%d terms, %d refused", terms, none)
	}
}

// change writes something else into some part of a tree.
func (m *writer) change(x reflect.Value) {
	switch x.Kind() {
	case reflect.Slice:
		switch {
		case x.Len() == 0:
			if m.Intn(3) == 0 {
				x.Set(reflect.MakeSlice(x.Type(), 1, 1))
			}
		case m.Intn(12) == 0:
			x.Set(x.Slice(m.Intn(x.Len()), x.Len()))
		case m.Intn(12) == 0:
			x.Set(reflect.AppendSlice(reflect.MakeSlice(x.Type(), 0, 1), x))
			x.Set(reflect.Append(x, x.Index(0)))
		default:
			m.change(x.Index(m.Intn(x.Len())))
		}
	case reflect.Struct:
		for range 3 { // most fields are empty ones
			if f := x.Field(m.Intn(x.NumField())); f.Kind() == reflect.Slice && f.Len() > 0 || m.Intn(4) == 0 {
				m.change(f)
				return
			}
		}
	case reflect.Int:
		x.SetInt(int64(m.Intn(24) - 1))
	case reflect.String:
		x.SetString(m.one("x1", "S", "S.x", "nil", "Div", "E", "", "1", "+real", "Int", strconv.Itoa(m.Intn(3))))
	}
}

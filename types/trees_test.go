package types_test

import (
	"reflect"
	"strings"
	"testing"

	"smithy/api"
	"smithy/big"
	"smithy/syntax"
	"smithy/types"
)

// everything is a program with all that there is.
const everything = `infix 6 ++ infixr 5 ** nonfix o
signature T = sig type t type 'a u = 'a list datatype 'a d = A | B of 'a * t exception E of t val x : t val f : 'a -> 'a u end
structure S :> T = struct
  type t = int * bool type 'a u = 'a list datatype 'a d = A | B of 'a * t and e = C exception E of t
  val x = (~123456789012345678901234567890, true) fun f y = [y] val B (z, _) = B (1, x) fun g A = 1.0 | g (B (_, (n, _))) = 2.0 * 3.0
  structure In = struct val (p, q as {a = r, 2 = [s, "t"]}) = raise Match end
end
structure U = S structure V : sig val f : int -> int list end = U
datatype ('a, ''b) w = W of {a : 'a, b : ''b} | V exception F exception G of int
fun op ++ (x, y) = x + y and op ** (a, b) = if a < b then a else ~ a
fun h {a = 1, b = "s"} #"c" = let val (z as _, [w]) = (1 : int, [true]) exception H of int in while w do z; z end
  | h _ _ = (case S.x of y => #a {a = 1 ++ 2, b = y} | y => 2; 3) handle F => 4 | G n => n | e => raise e
val k = fn nil => V | x :: _ => W x fun m (r : {a : int, b : int}) = #a r + #b r * #a r
val l = (#2 (1, "a" <= "b"), 1.5 > 2.5 andalso true orelse false, [#b {a = (), b = fn x => x}])
val r = ref nil val _ = r := [fn Div => 1 | _ => 2]`

// R3: what the declarations are but for what P5.2 says is what was handed in.
func TestTreesStay(t *testing.T) {
	l := parsed(t, everything)
	decs, values, e := types.Infer(l)
	if e != api.OK {
		t.Fatal(e)
	}
	if syntax.Same(decs, l) {
		t.Error("nothing was told of the declarations")
	}
	revert(reflect.ValueOf(&decs).Elem())
	if !syntax.Same(decs, l) {
		t.Error("other declarations")
	}
	const want = "++ : int * int -> int; ** : int * int -> int; h : {a : int, b : string} -> char -> int; k : {a : 'a, b : ''b} list -> ('a, ''b) w; m : {a : int, b : int} -> int; " +
		"l : bool * bool * (unit -> unit) list; r : (exn -> int) list ref; S.x : S.t; S.f : 'a -> 'a list; U.x : S.t; U.f : 'a -> 'a list; V.f : int -> int list"
	if got := lines(values); got != want {
		t.Errorf("\n got  %s\n want %s", got, want)
	}
}

// revert writes into a tree; a PatCon without a kid and without a dot was a PatVar.
func revert(x reflect.Value) {
	switch p := x.Addr().Interface().(type) {
	case *api.Pat:
		if p.Kind == api.PatCon && len(p.Kids) == 0 && !strings.Contains(p.Name, ".") {
			p.Kind = api.PatVar
		}
	case *api.Exp:
		switch {
		case p.Kind == api.ExpSelect:
			p.Labels, p.N = nil, 0
		case p.Kind == api.ExpVar && strings.ContainsAny(p.Name[:1], "+-*~<>"):
			p.Name = strings.TrimRight(p.Name, "abcdefghijklmnopqrstuvwxyz")
		}
	}
	switch x.Kind() {
	case reflect.Slice:
		for i := range x.Len() {
			revert(x.Index(i))
		}
	case reflect.Struct:
		for i := range x.NumField() {
			revert(x.Field(i))
		}
	}
}

// P5.2: in the place of a PatVar that is a constructor or an exception a PatCon.
func TestPatterns(t *testing.T) {
	var list func(p api.Pat) string
	list = func(p api.Pat) string {
		out := map[int]string{api.PatVar: "var ", api.PatCon: "con ", api.PatAs: "as "}[p.Kind] + p.Name
		for _, k := range p.Kids {
			out += " (" + list(k) + ")"
		}
		return out
	}
	const ahead = "datatype t = A | B of int | x' exception E structure S = struct datatype u = C end "
	for _, r := range []row{
		{"fn x => 1", "var x"},
		{"fn A => 1", "con A"},
		{"fn x' => 1", "con x'"},
		{"fn E => 1", "con E"},
		{"fn Div => 1", "con Div"},
		{"fn nil => 1", "con nil"},
		{"fn true => 1", "con true"},
		{"fn S.C => 1", "con S.C"},
		{"fn C => 1", "var C"},
		{"fn print => 1", "var print"},
		{"fn ref => 1", "var ref"},
		{"fn (A, y, z as A) => 1", " (con A) (var y) (as z (con A))"},
		{"fn B y => 1", "con B (var y)"},
		{"fn [A, y] => 1", " (con A) (var y)"},
		{"fn (A : t) => 1", " (con A)"},
		{"fn y :: nil => 1", "con :: ( (var y) (con nil))"},
		{"fn {a = A, b = op + } => 1", " (con A) (var +)"},
	} {
		decs, _, e := types.Infer(parsed(t, ahead+"val f = "+r.program))
		if e != api.OK {
			t.Errorf("%s: %v", r.program, e)
			continue
		}
		p := decs[len(decs)-1].Exps[0].Rules[0].P
		if got := list(p); got != r.want {
			t.Errorf("%s: %s", r.program, got)
		}
	}
	decs, _, _ := types.Infer(parsed(t, ahead+"val A = A fun f A E y = 1 val g = 1 handle E => 2 val h = case A of A => 1"))
	for i, want := range []string{"con A", "con A", "con E", "con A"} {
		d := decs[3+i]
		got := ""
		switch i {
		case 0:
			got = list(d.Pats[0])
		case 1:
			got = list(d.Funs[0].Clauses[0].Pats[0])
		default:
			got = list(d.Exps[0].Rules[0].P)
		}
		if got != want {
			t.Errorf("%d: %s", i, got)
		}
	}
}

// What was answered is told again the same; what is told is no program of its own.
func TestTwice(t *testing.T) {
	l := parsed(t, everything)
	a, v, _ := types.Infer(l)
	b, w, _ := types.Infer(l)
	if !reflect.DeepEqual(a, b) || !reflect.DeepEqual(v, w) {
		t.Error("another answer")
	}
	if _, _, e := types.Infer(a); e != api.ErrType {
		t.Error("operators that were told apart have types")
	}
}

// Integers are answered as they should stand.
func TestIntegers(t *testing.T) {
	odd := api.Int{Neg: true, Mag: []uint32{7, 0, 0}}
	l := []api.Dec{{Kind: api.DecVal, Pats: []api.Pat{{Kind: api.PatInt, Int: odd}}, Exps: []api.Exp{{Kind: api.ExpInt, Int: odd}}}}
	decs, _, e := types.Infer(l)
	if e != api.OK || !reflect.DeepEqual(decs[0].Pats[0].Int, big.Of(-7)) || !reflect.DeepEqual(decs[0].Exps[0].Int, big.Of(-7)) {
		t.Errorf("%v, %+v", e, decs)
	}
}

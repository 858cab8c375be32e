package types_test

import (
	"strings"
	"testing"

	"smithy/api"
	"smithy/types"
)

// operatorTypes are the operators that are told apart, with the types that they may be of.
func operatorTypes() map[string]string {
	return map[string]string{"+": "int real", "-": "int real", "*": "int real", "<": "int real char string", "<=": "int real char string", ">": "int real char string", ">=": "int real char string"}
}

// constants are those of types.
func constants() map[string]string {
	return map[string]string{"int": "1", "real": "1.0", "char": "#\"c\"", "string": "\"s\"", "bool": "true", "unit": "()", "int list": "[1]", "int ref": "(ref 1)", "exn": "Div", "int -> int": "(fn x : int => x)", "{a : int}": "{a = 1}", "bytes": "(Bytes.new 1)"}
}

// names are those of the variables of declarations, in the order in which they stand.
func names(l []api.Dec) (out []string) {
	for _, d := range l {
		for _, e := range d.Exps {
			out = append(out, expNames(e)...)
		}
		for _, f := range d.Funs {
			for _, c := range f.Clauses {
				out = append(out, expNames(c.E)...)
			}
		}
		out = append(out, names(d.Decs)...)
	}
	return out
}

func expNames(e api.Exp) []string {
	var out []string
	if e.Kind == api.ExpVar {
		out = []string{e.Name}
	}
	out = append(out, names(e.Decs)...)
	for _, k := range e.Kids {
		out = append(out, expNames(k)...)
	}
	for _, r := range e.Rules {
		out = append(out, expNames(r.E)...)
	}
	return out
}

// operators are the names of a program's variables that begin with one of an operator, as they are told.
func operators(t *testing.T, program string) string {
	t.Helper()
	decs, _, e := types.Infer(parsed(t, program))
	if e != api.OK {
		return "ErrType"
	}
	var out []string
	for _, name := range names(decs) {
		if strings.ContainsAny(name[:1], "+-*~<>") {
			out = append(out, name)
		}
	}
	return strings.Join(out, " ")
}

func holdOperators(t *testing.T, rows []row) {
	t.Helper()
	for _, r := range rows {
		if got := operators(t, r.program); got != r.want {
			t.Errorf("%s\n got  %s\n want %s", r.program, got, r.want)
		}
	}
}

// P5.1, P5.2: each operator, by each argument.
func TestOperators(t *testing.T) {
	for op, may := range operatorTypes() {
		for ty, c := range constants() {
			want := "ErrType"
			if strings.Contains(" "+may+" ", " "+ty+" ") {
				want = op + ty
			}
			holdOperators(t, []row{
				{"val x = " + c + " " + op + " " + c, want},
				{"fun f x = x " + op + " " + c, want},
				{"fun f x = " + c + " " + op + " x", want},
				{"fun f (x : " + ty + ") y = x " + op + " y", want},
				{"fun f x y = (x " + op + " y, [x, " + c + "])", want},
				{"val f = op " + op + " : " + tyArg(ty) + " * " + tyArg(ty) + " -> 'b", want},
				{"val f = fn x => fn y => let val z = x " + op + " y in (y : " + ty + "; z) end", want},
			})
		}
		result := "int"
		if strings.ContainsAny(op, "<>") {
			result = "bool"
		}
		hold(t, []row{{"fun f x y = x " + op + " y", "f : int -> int -> " + result}})
		holdOperators(t, []row{{"fun f x y = x " + op + " y", op + "int"}, {"val f = op " + op, op + "int"}})
	}
	for ty, c := range constants() {
		want := "ErrType"
		if ty == "int" || ty == "real" {
			want = "~" + ty
		}
		holdOperators(t, []row{{"val x = ~ " + c, want}, {"fun f x = (~ x, [x, " + c + "])", want}})
	}
	holdOperators(t, []row{{"fun f x = ~ x", "~int"}})
}

func tyArg(ty string) string {
	if strings.Contains(ty, "->") {
		return "(" + ty + ")"
	}
	return ty
}

// P5.1: what an operator is of follows from all of the outermost val or fun, and from nothing else.
func TestOperatorsFollow(t *testing.T) {
	holdOperators(t, []row{
		{"fun f x y = (x + x, y < y)", "+int <int"},
		{"fun f x y = (x + x, y < y, x = y, y : string)", "ErrType"},
		{"fun f x y = (x + y, y < 1.0)", "+real <real"},
		{"fun f x = let fun g y = y + y in g 1.0 end", "+real"},
		{"fun f x = let fun g y = y + y in g end", "+int"},
		{"fun f x = let fun g y = y + y in (g 1, g 2) end", "+int"},
		{"fun f x = let fun g y = y + y in (g 1.0, g 2) end", "ErrType"},
		{"fun f x = let val g = op + in (g (1.0, 2.0), x) end", "+real"},
		{"fun f x = let val g = fn y => ~ y val h = g in h 1.0 end", "~real"},
		{"fun f x = x + x and g y = f 1.0", "+real"},
		{"fun f x = x + x val y = f 1.0", "ErrType"},
		{"val f = fn x => x + x val y = f 1", "+int"},
		{"fun f x = let fun g y = (y < y, fn z => z) in (g #\"c\", x) end", "<char"},
		{"fun f x = (fn y => y > x) \"s\"", ">string"},
		{"fun f (x, y) = x * y + x - ~ y", "-int +int *int ~int"},
		{"fun f x = (x <= x) = (1 <= 2) andalso \"\" >= \"\"", "<=int <=int >=string"},
		{"type t = real type u = t fun f x y = (x : u) + y", "+real"},
		{"structure S = struct fun f x = x + x val y = 1.0 + 2.0 end", "+int +real"},
		{"fun f x = 1.0 + (if true then x else 2.0 * x)", "+real *real"},
		{"val r = ref nil fun f x = case !r of [y] => y < y | _ => x", "<int"},
		{"fun f x = let val r = ref nil in (r := [x]; x + x; r := [1.0]) end", "+real"},
		{"fun f x = let fun g y = (x + x, y) in (g 1, g true, x : real) end", "+real"},
		{"fun f x = x = x andalso x < x", "<int"},
		{"fun f x = x = x andalso x < 1.0", "ErrType"},
	})
	hold(t, []row{
		{"fun f x = let fun g y = (x + x, y) in (g 1, g true) end", "f : int -> (int * int) * (int * bool)"},
		{"fun f x = let fun g y z = (y + y, z) in (g 1 1, g 1 true) end", "f : 'a -> (int * int) * (int * bool)"},
		{"fun f x = let fun g y z = (y + y, z) in (g 1.0 1, g 1.0 true) end", "f : 'a -> (real * int) * (real * bool)"},
	})
}

// P5.2: operators whose names are declared anew are names like all others.
func TestOperatorsAnew(t *testing.T) {
	holdOperators(t, []row{
		{"fun op + (x, y) = x ^ y val z = \"a\" + \"b\"", "+"},
		{"val op < = fn (x, y) => x > y val z = 1.0 < 2.0", "ErrType"},
		{"val op < = fn (x, y) => x > y val z = 1 < 2", ">int <"},
		{"fun f (op *) = 1 * true + 2", "+int *"},
		{"val x = let fun op ~ x = not x and not true = false | not _ = true in ~ true end val y = ~ 1", "~ ~int"},
		{"structure S = struct val op - = fn x => x val y = op - true end val z = 2 - 1", "- -int"},
		{"datatype t = + of int * int val x = 1 + 2 fun f (x + y) = x - y", "+ -int"},
		{"infix 6 - fun op - (x, y) = (y, x) val z = (1 - true) - ()", "- -"},
		{"val op + = op + val x = 1 + 2", "+int +"},
		{"val op + = op + val x = 1.0 + 2.0", "ErrType"},
	})
	hold(t, []row{
		{"fun op = (x, y) = x + y val z = 1 = 2", "= : int * int -> int; z : int"},
		{"fun op <> x = x val f = op <> val y = 1.0 <> 2.0", "<> : 'a -> 'a; f : 'a -> 'a; y : real * real"},
		{"structure S = struct fun op + x = x end val f = op S", "ErrType"},
	})
}

// selectors are those of a program: their label, their record's, and its place.
func selectors(t *testing.T, program string) []api.Exp {
	t.Helper()
	decs, _, e := types.Infer(parsed(t, program))
	if e != api.OK {
		t.Errorf("%s: %v", program, e)
	}
	var out []api.Exp
	var look func(e api.Exp)
	look = func(e api.Exp) {
		if e.Kind == api.ExpSelect {
			out = append(out, e)
		}
		for _, k := range e.Kids {
			look(k)
		}
		for _, r := range e.Rules {
			look(r.E)
		}
		for _, d := range e.Decs {
			look(api.Exp{Kids: d.Exps})
			for _, f := range d.Funs {
				look(f.Clauses[0].E)
			}
		}
	}
	for _, d := range decs {
		look(api.Exp{Decs: []api.Dec{d}})
	}
	return out
}

// P5.2: the labels of a selector's record, in their order, and its place among them.
func TestSelectors(t *testing.T) {
	for _, c := range []struct {
		program, labels string
		place           int
	}{
		{"val x = #a {b = 1, a = 2}", "a b", 0},
		{"val x = #b {b = 1, a = 2}", "a b", 1},
		{"val x = #2 (1, true, \"\")", "1 2 3", 1},
		{"val x = #1 {1 = 2}", "1", 0},
		{"val x = #z {z = 1, 10 = 2, 9 = 3, B = 4, a = 5}", "9 10 B a z", 4},
		{"val x = #10 {z = 1, 10 = 2, 9 = 3, B = 4, a = 5}", "9 10 B a z", 1},
		{"fun f r = (#b r, r : {b : int, a : int})", "a b", 1},
		{"fun f r = let fun g x = #b x in g {c = 1, b = 2, a = 3} end", "a b c", 1},
		{"type t = {b : int, a : int} fun f (r : t) = #a r", "a b", 0},
		{"val f = #c : {d : int, c : 'a} -> 'a", "c d", 0},
	} {
		l := selectors(t, c.program)
		if len(l) != 1 || strings.Join(l[0].Labels, " ") != c.labels || l[0].N != c.place {
			t.Errorf("%s: %+v", c.program, l)
		}
	}
}

// P5.1: which record a selector is used on follows from all of the outermost val or fun, and it has the label.
func TestSelectorsFollow(t *testing.T) {
	hold(t, []row{
		{"fun f r = (#a r, r : {a : int, b : bool})", "f : {a : int, b : bool} -> int * {a : int, b : bool}"},
		{"fun f r = (#a r + #b r, r : {a : real, b : 'c})", "f : {a : real, b : real} -> real * {a : real, b : real}"},
		{"fun f (r : 'a * 'b) = (#2 r, #1 r)", "f : 'a * 'b -> 'b * 'a"},
		{"fun f () = let fun g x = #a x in g {a = 1, b = 2} end", "f : unit -> int"},
		{"fun f () = let val g = #a in (g {a = 1}, g {a = 2}) end", "f : unit -> int * int"},
		{"fun f () = let fun g x = #a x in (g {a = 1}, g {a = true}) end", "ErrType"},
		{"fun f () = let fun g x = #a let val y = 1 fun h z = #a z in (h {a = 2}; {a = x, b = y}) end in (g 1, g true) end", "f : unit -> int * bool"},
		{"fun f () = let fun g x = let fun h y = #a y in h {a = x} end in (g 1, g true) end", "f : unit -> int * bool"},
		{"fun f () = let fun g x = let fun h y = #a y in h x end in (g {a = 1}, g {a = 2}) end", "f : unit -> int * int"},
		{"fun f () = let fun g x = let fun h y = #a y in h x end in (g {a = 1}, g {a = true}) end", "ErrType"},
		{"fun f () = let fun g (x, y) = #1 (x, y) in (g (1, 2), g (true, 3)) end", "f : unit -> int * bool"},
		{"fun f () = let fun g x = #a (x : {a : 'p, b : 'q}) in (g {a = 1, b = 2}, g {a = 1, b = 3}) end", "f : unit -> int * int"},
		{"fun f () = let fun g x = (#a x, (fn {a = y, b = z} => y) x) in (g {a = 1, b = 2}, g {a = true, b = ()}) end", "f : unit -> (int * int) * (bool * bool)"},
		{"fun f r = let val x = #a r val y = x in (r : {a : {b : int}}; #b y) end", "f : {a : {b : int}} -> int"},
		{"fun f r = (#b (#a r), r : {a : {b : int}})", "f : {a : {b : int}} -> int * {a : {b : int}}"},
		{"fun f r = #c (#b (#a r)) and g () = f {a = {b = {c = 1}}}", "f : {a : {b : {c : int}}} -> int; g : unit -> int"},
		{"fun f r = let fun g s = #a s val x = g r in (x, r : {a : 'b -> 'b}) end", "f : {a : 'a -> 'a} -> ('a -> 'a) * {a : 'a -> 'a}"},
		{"val x = (fn r => #a r) {a = 1}", "x : int"},
		{"val f = #1 : 'a * 'b -> 'a", "f : 'a * 'b -> 'a"},
		{"fun f r = (#a r = #b r, r : {a : 'x, b : 'x})", "f : {a : ''a, b : ''a} -> bool * {a : ''a, b : ''a}"},
	})
	refused(t, []row{
		{"val f = #a", "val f = #a : {a : int} -> int"},
		{"fun f r = #a r", "fun f (r : {a : int}) = #a r"},
		{"fun f r = #a r val x = f {a = 1}", "fun f r = #a r and g () = f {a = 1}"},
		{"val x = #a {b = 1}", "val x = #b {b = 1}"},
		{"val x = #3 (1, 2)", "val x = #2 (1, 2)"},
		{"val x = #a 1", "val x = #a {a = 1}"},
		{"val x = #1 1", "val x = #1 (1, 1)"},
		{"val x = #a ()", "val x = #a {a = ()}"},
		{"val x = #1 [1]", "val x = #1 (1, [1])"},
		{"datatype t = T of {a : int} val x = #a (T {a = 1})", "datatype t = T of {a : int} fun f (T r) = #a r"},
		{"fun f r = (#a r, #b r, r : {a : int})", "fun f r = (#a r, #b r, r : {a : int, b : int})"},
		{"fun f r = let fun g x = #a x in 1 end", "fun f r = let fun g x = #a (x : {a : int}) in 1 end"},
		{"fun f r = #a (r : {a : int, b : bool}) : bool", "fun f r = #b (r : {a : int, b : bool}) : bool"},
		{"fun f r = #a r r", "fun f r = #a (r : {a : int -> int}) 1"},
	})
}

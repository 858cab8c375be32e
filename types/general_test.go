package types_test

import (
	"strings"
	"testing"
)

// typeOf is the type of the last value of that name, or the program's error.
func typeOf(t *testing.T, program, name string) string {
	t.Helper()
	got := told(t, program)
	for _, line := range strings.Split(got, "; ") {
		if is, ok := strings.CutPrefix(line, name+" : "); ok {
			got = is
		}
	}
	return got
}

const things = "datatype 'a t = A of 'a | B exception E of int fun i x = x structure S = struct datatype 'a u = A of 'a fun f x = x end "

// stillCases are expressions that are still, each with one like it that is not.
func stillCases() []row {
	return []row{
		{"fn x => x", "i (fn x => x)"},
		{"i", "i i"},
		{"(fn x => x, 1)", "(fn x => x, i 1)"},
		{"{a = i, b = fn x => x}", "{a = i, b = let in i end}"},
		{"[i, fn x => x]", "[i, i i]"},
		{"[]", "i []"},
		{"nil", "!(ref nil)"},
		{"(i : 'b -> 'b)", "(i i : 'b -> 'b)"},
		{"(i, (1, 2.0, #\"c\", \"t\", ~3))", "(i, (1, 2.0, #\"c\", \"t\", 1 + 2))"},
		{"A i", "A (i i)"},
		{"A (B, A i)", "A (B, ref i)"},
		{"i :: [i]", "i :: i []"},
		{"i :: []", "i i :: []"},
		{"ref :: []", "ref i :: []"},
		{"S.A i", "S.f i"},
		{"A", "i A"},
		{"(ref, E, E 1, Div)", "(ref nil, E, E 1, Div)"},
		{"(E 2, nil)", "(E (1 + 1), nil)"},
		{"(#a, fn r => (r : {a : int}), i) : ({a : int} -> int) * ({a : int} -> {a : int}) * ('b -> 'b)", "(#a {a = 1}, i)"},
		{"fn _ => ref nil", "if true then i else i"},
		{"i", "(1; i)"},
		{"i", "case 1 of _ => i"},
		{"i", "i handle _ => i"},
		{"i", "let val j = i in j end"},
		{"nil", "raise Div"},
		{"A B", "(A : 'b t -> 'b t t) B"},
		{"nil", "(fn x => x) nil"},
		{"ref", "ref nil"},
		{"(op +, nil)", "(1 + 1, nil)"},
		{"(i, fn () => while true do ())", "(i, while false do ())"},
		{"(i, true)", "(i, true andalso true)"},
		{"(i, true)", "(i, true orelse true)"},
	}
}

// P5.1, P5.2: a value whose expression is still is general, another one is not.
func TestStill(t *testing.T) {
	for _, c := range stillCases() {
		still, other := typeOf(t, things+"val it = "+c.program, "it"), typeOf(t, things+"val it = "+c.want, "it")
		if !strings.Contains(still, "'") {
			t.Errorf("%s: %s", c.program, still)
		}
		if strings.Contains(other, "'") || other == "ErrType" {
			t.Errorf("%s: %s", c.want, other)
		}
	}
	hold(t, []row{
		{"datatype 'a t = ref of 'a val x = ref nil", "x : 'a list t"},
		{"fun A x = ref x val x = A nil", "A : 'a -> 'a ref; x : unit list ref"},
		{"exception E of int val x = fn E => E nil", "ErrType"},
		{"val f = fn x => x val g = f f val h = (g 1, f true)", "f : 'a -> 'a; g : int -> int; h : int * bool"},
		{"val f = fn x => x val g = f f val h = (g 1, g true)", "ErrType"},
		{"val [f] = [fn x => x] val x = (f 1, f true)", "f : 'a -> 'a; x : int * bool"},
		{"val (f, r) = (fn x => x, ref 1) val x = (f 1, f 2)", "f : int -> int; r : int ref; x : int * int"},
		{"val (f, r) = (fn x => x, ref 1) val x = (f 1, f true)", "ErrType"},
		{"val f : 'a -> 'a = fn x => x val x = (f 1, f true)", "f : 'a -> 'a; x : int * bool"},
	})
}

// What is not general: variables that stand in types of values about.
func TestTypesAbout(t *testing.T) {
	hold(t, []row{
		{"fun f x = let val y = fn () => x in (y (), y ()) end", "f : 'a -> 'a * 'a"},
		{"fun f x = let fun g y = (x, y) in (g 1, g true) end", "f : 'a -> ('a * int) * ('a * bool)"},
		{"fun f x = let fun g y = [x, y] in (g 1, g 2) end", "f : int -> int list * int list"},
		{"fun f x = let fun g y = [x, y] in (g 1, g true) end", "ErrType"},
		{"fun f x = let val g = fn y => x y in (g 1, g 2) end", "f : (int -> 'a) -> 'a * 'a"},
		{"fun f x = let val g = fn y => x y in (g 1, g true) end", "ErrType"},
		{"fun f x = let val y = x val z = y in (z 1, z true) end", "ErrType"},
		{"fun f x = let fun g y = let fun h z = (x, y, z) in (h 1, h true) end in (g 2, g \"\") end", "f : 'a -> (('a * int * int) * ('a * int * bool)) * (('a * string * int) * ('a * string * bool))"},
		{"fun f x = let fun g y = let fun h z = if true then y else z in (h, y) end in (g 2, g \"\") end", "f : 'a -> ((int -> int) * int) * ((string -> string) * string)"},
		{"fun f x = let fun g y = let fun h z = if true then y else z in (h y, h 1) end in (g 2, g \"\") end", "ErrType"},
		{"fun f x = let val r = ref [] in (r := [x]; r) end", "f : 'a -> 'a list ref"},
		{"fun f () = let val r = ref [] in r end val x = (f (), f ()) val y = f () := [1]", "f : unit -> 'a list ref; x : unit list ref * unit list ref; y : unit"},
		{"fun f x = let val r = ref (fn y => y) in (!r 1, !r true) end", "ErrType"},
		{"val f = fn g => (g 1, g true)", "ErrType"},
		{"fun f g = (g 1, g true)", "ErrType"},
		{"fun f x = (f 1, f true)", "ErrType"},
		{"fun f x = let fun g y = x in (g 1, g true) end", "f : 'a -> 'a * 'a"},
		{"val f = case (fn x => x) of g => (g 1, g true)", "ErrType"},
		{"val f = let val g = fn x => x in (g 1, g true) end", "f : int * bool"},
	})
}

// P5.2: where a variable is not general, what comes behind says what it is, or nothing does.
func TestNotGeneral(t *testing.T) {
	hold(t, []row{
		{"val r = ref nil val s = r", "r : unit list ref; s : unit list ref"},
		{"val r = ref nil fun f x = (r := [x]; x)", "r : unit list ref; f : unit -> unit"},
		{"val r = ref nil fun f x = (r := [x]; x) val y = f true", "r : bool list ref; f : bool -> bool; y : bool"},
		{"val r = ref nil val s = ref nil val _ = [r, s] val _ = s := [\"\"]", "r : string list ref; s : string list ref"},
		{"val r = ref nil val _ = r := [1] val _ = r := [true]", "ErrType"},
		{"val r = ref nil fun f (x, y) = (r := [x]; x = y)", "r : unit list ref; f : unit * unit -> bool"},
		{"val r = ref nil fun f (x, y) = (r := [x]; x = y) val _ = r := [1.0]", "ErrType"},
		{"val r = ref nil fun f x = (x + x; r := [x]) val _ = r := [1]", "r : int list ref; f : int -> unit"},
		{"val r = ref nil fun f x = (r := [x]; x + x)", "r : int list ref; f : int -> int"},
		{"val r = ref nil fun f x = (r := [x]; x + x) val _ = r := [1.0]", "ErrType"},
		{"val r = ref nil val _ = r := [1.0] fun f x = (r := [x]; x + x)", "r : real list ref; f : real -> real"},
		{"val r = ref nil val f = fn x => (case !r of [y] => #a y | _ => x)", "ErrType"},
		{"val r = ref nil val _ = r := [{a = 1}] val f = fn x => (case !r of [y] => #a y | _ => x)", "r : {a : int} list ref; f : int -> int"},
		{"structure S = struct val r = ref nil end val _ = S.r := [1]", "S.r : int list ref"},
		{"structure S : sig val r : int list ref end = struct val r = ref nil end", "S.r : int list ref"},
		{"structure S = struct val r = ref nil end structure T : sig val r : int list ref end = S", "S.r : int list ref; T.r : int list ref"},
		{"structure S : sig val r : 'a list ref end = struct val r = ref nil end", "ErrType"},
		{"structure S : sig val f : 'a -> 'a end = struct val f = (fn x => x) (fn x => x) end", "ErrType"},
		{"val r = ref nil val s = ref r val _ = r := [s]", "ErrType"},
		{"val r = ref nil datatype t = A val _ = r := [A]", "r : t list ref"},
		{"val r = (fn x => x) (fn x => x) val s = (fn x => x) r", "r : unit -> unit; s : unit -> unit"},
	})
}

// P5.1: type variables that are written.
func TestWrittenVariables(t *testing.T) {
	hold(t, []row{
		{"fun f (x : 'a) = x", "f : 'a -> 'a"},
		{"fun f (x : 'a, y : 'b) = [x, y]", "f : 'a * 'a -> 'a list"},
		{"val x : 'a = 1", "x : int"},
		{"val x : 'a list = nil", "x : 'a list"},
		{"val x : 'a list ref = ref nil", "x : unit list ref"},
		{"fun f (x : 'a) = x + 1", "f : int -> int"},
		{"fun f (x : 'a) = let fun g (y : 'a) = y in (g 1, x) end", "f : int -> int * int"},
		{"fun f (x : 'a) = let fun g (y : 'a) = y in (g, x) end", "f : 'a -> ('a -> 'a) * 'a"},
		{"fun f () = let fun g (y : 'a) = y in (g 1, g 2) end", "f : unit -> int * int"},
		{"fun f () = let fun g (y : 'a) = y in (g 1, g true) end", "ErrType"},
		{"fun f () = let fun g (y : 'a) = y fun h (z : 'a) = z in (g 1, h true) end", "ErrType"},
		{"fun f () = let fun g (y : 'a) = y fun h (z : 'b) = z in (g 1, h true) end", "f : unit -> int * bool"},
		{"fun f (x : 'a) = x fun g (x : 'a) = x + 1 val h : 'a -> 'a = fn x => x ^ \"\"", "f : 'a -> 'a; g : int -> int; h : string -> string"},
		{"fun f (x : 'a) = x and g (y : 'a) = y + 1", "f : int -> int; g : int -> int"},
		{"val (f, g) = (fn x : 'a => x, fn x : 'a => [x])", "f : 'a -> 'a; g : 'a -> 'a list"},
		{"val x = (1 : 'a, true : 'a)", "ErrType"},
		{"val x = (1 : 'a, true : ''a)", "x : int * bool"},
		{"fun f (x : ''a) = x", "f : ''a -> ''a"},
		{"val x : ''a = 1.0", "ErrType"},
		{"val x : ''a = 1", "x : int"},
		{"fun f (x : ''a) = let val r : ''a ref = ref x in r end", "f : ''a -> ''a ref"},
		{"structure S = struct fun f (x : 'a) = x fun g (x : 'a) = x + 1 end", "S.f : 'a -> 'a; S.g : int -> int"},
	})
	refused(t, []row{
		{"datatype t = A of 'a", "datatype 'a t = A of 'a"},
		{"datatype 'a t = A of 'b", "datatype ('a, 'b) t = A of 'b"},
		{"datatype 'a t = A of ''a", "datatype ''a t = A of ''a"},
		{"datatype 'a t = A and u = B of 'a", "datatype 'a t = A and 'a u = B of 'a"},
		{"datatype ('a, 'a) t = A", "datatype ('a, ''a) t = A"},
		{"fun f (x : 'a) = let datatype t = A of 'a in x end", "fun f (x : 'a) = let datatype 'a t = A of 'a in x end"},
		{"type t = 'a", "type 'a t = 'a"},
		{"type 'a t = 'b", "type ('a, 'b) t = 'b"},
		{"type ('a, 'b, 'a) t = 'b", "type ('a, 'b, 'c) t = 'b"},
		{"fun f (x : 'a) = let type t = 'a in x end", "fun f (x : 'a) = let type 'a t = 'a in x end"},
		{"exception E of 'a", "exception E of int"},
		{"exception E of ''a list", "exception E of int list"},
		{"fun f (x : 'a) = let exception E of 'a in x end", "fun f (x : 'a) = let exception E of int in x end"},
		{"signature T = sig type t = 'a end", "signature T = sig type 'a t = 'a end"},
		{"signature T = sig type ('a, 'a) t end", "signature T = sig type ('a, 'b) t end"},
		{"signature T = sig type ('a, 'a) t = int end", "signature T = sig type ('a, 'b) t = int end"},
		{"signature T = sig datatype t = A of 'a end", "signature T = sig datatype 'a t = A of 'a end"},
		{"signature T = sig datatype ('a, 'a) t = A end", "signature T = sig datatype ('a, 'b) t = A end"},
		{"signature T = sig exception E of 'a end", "signature T = sig exception E of int end"},
	})
	hold(t, []row{
		{"structure S : sig val f : 'a -> 'b -> 'a val g : 'a -> 'a end = struct fun f x y = x fun g x = x end", "S.f : 'a -> 'b -> 'a; S.g : 'a -> 'a"},
		{"structure S : sig val f : 'z -> ''y end = struct fun f x = raise Match end", "S.f : 'a -> ''b"},
	})
}

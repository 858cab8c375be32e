package types_test

import (
	"strconv"
	"strings"
	"testing"

	"smithy/api"
	"smithy/syntax"
	"smithy/types"
)

// parsed are the declarations of a program.
func parsed(t *testing.T, program string) []api.Dec {
	t.Helper()
	l, m := syntax.Parse(program)
	if m.Code != api.OK {
		t.Fatalf("%.200s: %v", program, m)
	}
	return l
}

// told are the values of a program, a line each, or its error.
func told(t *testing.T, program string) string {
	t.Helper()
	l := parsed(t, program)
	if thrown, isFault := types.Thrown(l); thrown != nil && !isFault {
		t.Errorf("%.200s: throws %v", program, thrown)
	}
	decs, values, e := types.Infer(l)
	if e != api.OK {
		if e != api.ErrType || decs != nil || values != nil {
			t.Errorf("%.200s: %v, with %d declarations, %d values", program, e, len(decs), len(values))
		}
		return "ErrType"
	}
	return lines(values)
}

func lines(values []api.Named) string {
	var out []string
	for _, v := range values {
		out = append(out, v.Name+" : "+types.Text(v.Type))
	}
	return strings.Join(out, "; ")
}

// row is a program and what is told of it.
type row struct{ program, want string }

func hold(t *testing.T, rows []row) {
	t.Helper()
	for _, r := range rows {
		if got := told(t, r.program); got != r.want {
			t.Errorf("%.300s\n got  %.300s\n want %.300s", r.program, got, r.want)
		}
	}
}

// refused are programs to which no types can be given; each is told with one that differs little, and has types.
func refused(t *testing.T, pairs []row) {
	t.Helper()
	for _, p := range pairs {
		if got := told(t, p.program); got != "ErrType" {
			t.Errorf("%.300s: %.300s", p.program, got)
		}
		if got := told(t, p.want); got == "ErrType" {
			t.Errorf("%.300s: refused", p.want)
		}
	}
}

// sameAll holds programs against what is told of all of them.
func sameAll(t *testing.T, want string, programs ...string) {
	t.Helper()
	for _, p := range programs {
		hold(t, []row{{p, want}})
	}
}

func numbers(n int, one func(i int) string, between string) string {
	var out []string
	for i := range n {
		out = append(out, one(i))
	}
	return strings.Join(out, between)
}

func repeat(s string, n int, between string) string {
	return numbers(n, func(int) string { return s }, between)
}

func named(ahead string) func(i int) string {
	return func(i int) string { return ahead + strconv.Itoa(i) }
}

// The document's examples.
func TestExamples(t *testing.T) {
	const hidden = "structure S :> sig type t val a : t val f : t -> int end = struct type t = int val a = 1 fun f x = x end val b = S.f S.a"
	hold(t, []row{
		{"fun id x = x val p = (id 1, id true)", "id : 'a -> 'a; p : int * bool"},
		{"fun map f [] = [] | map f (x :: l) = f x :: map f l", "map : ('a -> 'b) -> 'a list -> 'b list"},
		{"val r = ref nil", "r : unit list ref"},
		{"val r = ref nil val _ = r := [1]", "r : int list ref"},
		{"fun f x = x + x", "f : int -> int"},
		{"fun f x = x + 1.0", "f : real -> real"},
		{"fun f (x, y) = x = y", "f : ''a * ''a -> bool"},
		{"val f = fn x => x x", "ErrType"},
		{"val x = 1 + true", "ErrType"},
		{"val x = 1.0 = 1.0", "ErrType"},
		{"fun f r = #a r", "ErrType"},
		{hidden, "b : int; S.a : S.t; S.f : S.t -> int"},
		{hidden + " val c = S.a + 1", "ErrType"},
		{"", ""},
		{"infix 6 ++ nonfix o signature T = sig val x : int end type t = int exception E datatype d = D", ""},
	})
}

// P5.1, P5.2: the most general type of each value.
func TestMostGeneral(t *testing.T) {
	hold(t, []row{
		{"val k = fn x => fn y => x", "k : 'a -> 'b -> 'a"},
		{"val s = fn x => fn y => fn z => x z (y z)", "s : ('a -> 'b -> 'c) -> ('a -> 'b) -> 'a -> 'c"},
		{"fun twice f x = f (f x)", "twice : ('a -> 'a) -> 'a -> 'a"},
		{"fun y f x = f (y f) x", "y : (('a -> 'b) -> 'a -> 'b) -> 'a -> 'b"},
		{"fun loop x = loop x", "loop : 'a -> 'b"},
		{"fun fold f z [] = z | fold f z (x :: l) = fold f (f (x, z)) l", "fold : ('a * 'b -> 'b) -> 'b -> 'a list -> 'b"},
		{"fun swap (x, y) = (y, x)", "swap : 'a * 'b -> 'b * 'a"},
		{"fun even 0 = true | even n = odd (n - 1) and odd 0 = false | odd n = even (n - 1)", "even : int -> bool; odd : int -> bool"},
		{"fun f x = x and g y = f y", "f : 'a -> 'a; g : 'a -> 'a"},
		{"fun f x = g x and g y = y", "f : 'a -> 'a; g : 'a -> 'a"},
		{"fun f x = x and g y = (f 1, f y)", "f : int -> int; g : int -> int * int"},
		{"fun f x = x and g y = (f 1, f true)", "ErrType"},
		{"val x = 1 val x = true val x = x", "x : int; x : bool; x : bool"},
		{"val (a, b as (c, _), [d, e], {z = f, y = g : int}) = (1, (#\"a\", 2.0), [\"\", \"s\"], {y = 3, z = ()})", "a : int; b : char * real; c : char; d : string; e : string; f : unit; g : int"},
		{"val a as b as _ = 1", "a : int; b : int"},
		{"val _ = 1", ""},
		{"val f = fn 0 => \"a\" | _ => \"b\"", "f : int -> string"},
		{"fun f #\"a\" \"b\" = 1 | f _ _ = 2", "f : char -> string -> int"},
		{"fun f x = case x of (y, 1) => y | (_, z) => true", "f : bool * int -> bool"},
		{"fun f x = if x then 1 else 2", "f : bool -> int"},
		{"fun f x y = x andalso y orelse x", "f : bool -> bool -> bool"},
		{"fun f x y = while x do y", "f : bool -> 'a -> unit"},
		{"fun f x = (1; true; x)", "f : 'a -> 'a"},
		{"fun f x = raise x", "f : exn -> 'a"},
		{"fun f x = x handle Div => 1 | e => raise e", "f : int -> int"},
		{"fun f x = let val y = x; fun g z = (y, z); in g end", "f : 'a -> 'b -> 'a * 'b"},
		{"val x = []", "x : 'a list"},
		{"val x = [[], [1]]", "x : int list list"},
		{"fun f [x, y] = x | f _ = 1", "f : int list -> int"},
		{"val x = () val y = {}", "x : unit; y : unit"},
		{"val x = {b = 1, a = true, 10 = \"\", 2 = #\"c\"}", "x : {2 : char, 10 : string, a : bool, b : int}"},
		{"fun f x : int = x", "f : int -> int"},
		{"fun f (x : 'z) : 'z list = [x]", "f : 'a -> 'a list"},
		{"fun f {1 = x, 2 = y} = (y, x)", "f : 'a * 'b -> 'b * 'a"},
		{"val x = fn _ => raise Match", "x : 'a -> 'b"},
		{"fun f x = (x : int list : int list)", "f : int list -> int list"},
		{"val x = let val x = 1 in let val x = (x, x) in x end end", "x : int * int"},
		{"val x = let in 1; true end", "x : bool"},
	})
}

// Each value that there is at first.
func TestAtFirst(t *testing.T) {
	for _, r := range []row{
		{"false", "bool"}, {"true", "bool"}, {"nil", "'a list"}, {"op ::", "'a * 'a list -> 'a list"},
		{"Match", "exn"}, {"Bind", "exn"}, {"Div", "exn"}, {"Subscript", "exn"}, {"Size", "exn"}, {"Io", "exn"}, {"Domain", "exn"}, {"Chr", "exn"},
		{"op =", "''a * ''a -> bool"}, {"op <>", "''a * ''a -> bool"},
		{"op +", "int * int -> int"}, {"op -", "int * int -> int"}, {"op *", "int * int -> int"}, {"~", "int -> int"},
		{"op <", "int * int -> bool"}, {"op <=", "int * int -> bool"}, {"op >", "int * int -> bool"}, {"op >=", "int * int -> bool"},
		{"op /", "real * real -> real"}, {"op div", "int * int -> int"}, {"op mod", "int * int -> int"}, {"op ^", "string * string -> string"},
		{"ref", "'a -> 'a ref"}, {"!", "'a ref -> 'a"}, {"op :=", "'a ref * 'a -> unit"},
		{"print", "string -> unit"}, {"inputLine", "unit -> string"}, {"readFile", "string -> string"}, {"writeFile", "string * string -> unit"},
		{"exit", "int -> 'a"}, {"size", "string -> int"}, {"str", "char -> string"}, {"ord", "char -> int"}, {"chr", "int -> char"},
		{"Int.toString", "int -> string"}, {"Real.fromInt", "int -> real"}, {"Real.floor", "real -> int"}, {"Real.bits", "real -> int"},
		{"String.sub", "string * int -> char"}, {"String.substring", "string * int * int -> string"},
		{"Vector.fromList", "'a list -> 'a vector"}, {"Vector.sub", "'a vector * int -> 'a"}, {"Vector.length", "'a vector -> int"},
		{"Bytes.new", "int -> bytes"}, {"Bytes.get", "bytes * int -> int"}, {"Bytes.put", "bytes * int * int -> unit"}, {"Bytes.length", "bytes -> int"},
	} {
		hold(t, []row{{"val x = " + r.program, "x : " + r.want}})
	}
	refused(t, []row{
		{"val x = op @", "infix @ val op @ = 1 val x = op @"},
		{"val x = op o", "val op o = 1 val x = op o"},
		{"val x = Int.fromString", "val x = Int.toString"},
		{"val x = String.toString", "val x = String.sub"},
		{"val x = toString", "val x = print"},
		{"val x = Foo.x", "structure Foo = struct val x = 1 end val x = Foo.x"},
		{"val x = Int", "structure Int = Int"},
		{"structure S : Int = struct fun toString (x : int) = \"\" end", "signature Int = sig end structure S : Int = struct end"},
		{"structure S : top = struct end", "signature top = sig end structure S : top = struct end"},
		{"structure S = top", "structure top = struct end structure S = top"},
	})
}

// Each type that there is at first, with as many arguments as it takes.
func TestTypesAtFirst(t *testing.T) {
	for _, name := range strings.Fields("int real bool char string exn bytes unit") {
		hold(t, []row{
			{"fun f (x : " + name + ") = x", "f : " + name + " -> " + name},
			{"fun f (x : int " + name + ") = x", "ErrType"},
		})
	}
	for _, name := range strings.Fields("list ref vector") {
		hold(t, []row{
			{"fun f (x : 'b " + name + ") = x", "f : 'a " + name + " -> 'a " + name},
			{"fun f (x : " + name + ") = x", "ErrType"},
			{"fun f (x : (int, int) " + name + ") = x", "ErrType"},
		})
	}
	hold(t, []row{
		{"val x = () : unit val y = () : {}", "x : unit; y : unit"},
		{"type unit = int val x = 1 : unit", "x : int"},
		{"fun f (x : t) = x", "ErrType"},
		{"fun f (x : Int.int) = x", "ErrType"},
		{"fun f (x : {a : int, 2 : bool}) = x", "f : {2 : bool, a : int} -> {2 : bool, a : int}"},
		{"fun f (x : {2 : bool, 1 : 'b} -> int * 'b) = x", "f : ('a * bool -> int * 'a) -> 'a * bool -> int * 'a"},
	})
}

// P5.2: val and fun first, then structures, each time.
func TestOrder(t *testing.T) {
	hold(t, []row{
		{"structure S = struct val a = 1 end val b = 2", "b : int; S.a : int"},
		{"structure S = struct structure T = struct val a = 1 end val b = 2 structure U = struct val c = 3 end val (d, e) = (4, 5) end fun f x = 6 and g x = 7 structure V = struct val h = 8 end val i = 9",
			"f : 'a -> int; g : 'a -> int; i : int; S.b : int; S.d : int; S.e : int; S.T.a : int; S.U.c : int; V.h : int"},
		{"structure S = struct val x = 1 val x = true end", "S.x : int; S.x : bool"},
		{"structure S = struct val x = 1 end structure S = struct val x = true end", "S.x : int; S.x : bool"},
		{"structure S : sig val c : int val a : bool end = struct val a = true val b = 1 val c = 2 end", "S.c : int; S.a : bool"},
		{"structure S = struct structure T : sig val b : int val a : int end = struct val a = 1 val b = 2 end val c = 3 end structure U = S", "S.c : int; S.T.b : int; S.T.a : int; U.c : int; U.T.b : int; U.T.a : int"},
		{"structure S : sig end = struct val x = 1 structure T = struct val y = 2 end end", ""},
		{"val a = let val b = 1 fun c x = x in b end", "a : int"},
		{"exception E datatype t = A type u = t structure S = struct exception F datatype v = B end", ""},
		{"structure R = Real structure R = R", "R.fromInt : int -> real; R.floor : real -> int; R.bits : real -> int; R.fromInt : int -> real; R.floor : real -> int; R.bits : real -> int"},
	})
}

// P5.2: the names of variables.
func TestNamesOfVariables(t *testing.T) {
	hold(t, []row{
		{"fun f x y z = (z, y = y, x)", "f : 'a -> ''b -> 'c -> 'c * bool * 'a"},
		{"fun f (x : 'z) (y : 'a) (z : ''q) = z", "f : 'a -> 'b -> ''c -> ''c"},
		{"datatype ('a, 'b) t = T of 'b -> 'a fun f (T g) x = g x", "f : ('a, 'b) t -> 'b -> 'a"},
		{"fun f {b = x, a = y} = (x, y)", "f : {a : 'a, b : 'b} -> 'b * 'a"},
		{"val (f, g) = (fn x => fn y => y, fn z => z)", "f : 'a -> 'b -> 'b; g : 'a -> 'a"},
	})
	letters := "abcdefghijklmnopqrstuvwxyz"
	var names []string
	for i := range 80 {
		name := letters[i%26 : i%26+1]
		if i >= 26 {
			name += strconv.Itoa(i / 26)
		}
		if i == 30 || i == 60 {
			name = "'" + name
		}
		names = append(names, "'"+name)
	}
	hold(t, []row{{"fun f " + numbers(80, named("x"), " ") + " = (x30 = x30, x60 = x60, 1)", "f : " + strings.Join(names, " -> ") + " -> bool * bool * int"}})
}

// P5.4: what is told is the same, whatever names variables have.
func TestOtherNames(t *testing.T) {
	sameAll(t, "f : 'a list -> ('a -> 'b) -> 'b list",
		"fun f [] g = [] | f (x :: l) g = g x :: f l g",
		"fun f [] f = [] | f (x :: xs) h = h x :: f xs h",
		"fun f [] print = [] | f (ref :: size) print = print ref :: f size print",
		"fun f ([] : 'x list) (g : 'x -> 'y) = [] | f (x :: l) g = g x :: f l g",
		"fun f ([] : 'b list) (g : 'b -> 'a) = [] | f (x :: l) g = g x :: f l g")
}

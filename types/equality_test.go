package types_test

import "testing"

// equal is a program that asks whether two values of a type are the same.
func equal(ty string) string { return "fun eq (x : " + ty + ", y) = x = y" }

// holdEquality holds types against whether they have equality, behind declarations.
func holdEquality(t *testing.T, before string, has, hasNot []string) {
	t.Helper()
	for _, ty := range has {
		if got := told(t, before+" "+equal(ty)); got == "ErrType" {
			t.Errorf("%s: %s has no equality", before, ty)
		}
		if got := told(t, before+" fun f (x : ''a) = x val g = fn (y : "+ty+") => f y"); got == "ErrType" {
			t.Errorf("%s: %s can't be put for ''a", before, ty)
		}
	}
	for _, ty := range hasNot {
		if got := told(t, before+" "+equal(ty)); got != "ErrType" {
			t.Errorf("%s: %s has equality: %s", before, ty, got)
		}
		if got := told(t, before+" fun ne (x : "+ty+", y) = x <> y"); got != "ErrType" {
			t.Errorf("%s: %s has equality: %s", before, ty, got)
		}
		if got := told(t, before+" fun f (x : "+ty+") = x"); got == "ErrType" {
			t.Errorf("%s: %s is no type", before, ty)
		}
	}
}

// P5.1: which types have equality.
func TestEquality(t *testing.T) {
	holdEquality(t, "",
		[]string{"int", "bool", "char", "string", "unit", "bytes", "int list", "int vector", "int ref", "real ref", "exn ref", "(int -> int) ref", "real ref list", "int * string", "{a : int, b : bool}", "(int * char list) vector", "real ref ref", "(real list) ref"},
		[]string{"real", "exn", "int -> int", "real list", "real vector", "exn list", "(int -> int) list", "int * real", "{a : int, b : exn}", "(int * real) list", "real ref * real"})
	holdEquality(t, "type t = int type u = real type 'a v = 'a list type 'a w = 'a ref type 'a x = int type ('a, 'b) y = 'a ref * 'b",
		[]string{"t", "t v", "u w", "u x", "(u, t) y", "u v w", "(int -> int) x"},
		[]string{"u", "u v", "(t, u) y", "u x * u"})
	hold(t, []row{
		{equal("'b"), "eq : ''a * ''a -> bool"},
		{equal("'b * 'c"), "eq : (''a * ''b) * (''a * ''b) -> bool"},
		{equal("'b ref * 'c"), "eq : ('a ref * ''b) * ('a ref * ''b) -> bool"},
		{equal("'b list"), "eq : ''a list * ''a list -> bool"},
		{"fun f x y = [x] = [y]", "f : ''a -> ''a -> bool"},
		{"fun member x [] = false | member x (y :: l) = x = y orelse member x l", "member : ''a -> ''a list -> bool"},
		{"fun f x = let fun g y = y = x in g end", "f : ''a -> ''a -> bool"},
		{"fun f x = let fun g (y, z) = y = z in (g (1, 2), g (true, false)) end", "f : 'a -> bool * bool"},
		{"fun f x = let fun g (y, z) = y = z in (g (1, 2), g (1.0, 2.0)) end", "ErrType"},
		{"fun f g = g = g", "f : ''a -> bool"},
		{"fun f g = (g = g, g 1)", "ErrType"},
		{"val f = op =", "f : ''a * ''a -> bool"},
		{"val f = op = val g = f (1, 2) val h = f (\"\", \"\")", "f : ''a * ''a -> bool; g : bool; h : bool"},
		{"val x = nil = nil", "x : bool"},
		{"val x = Div = Div", "ErrType"},
		{"val x = (fn x => x) = (fn x => x)", "ErrType"},
		{"val x = ref 1.0 = ref 2.0", "x : bool"},
		{"val x = (1, \"\") <> (2, \"a\")", "x : bool"},
	})
}

// P5.1: datatypes.
func TestDatatypesEquality(t *testing.T) {
	holdEquality(t, "datatype a = A datatype b = B of int | C of string * bool datatype c = D of int | E of real datatype d = F of int -> int | G datatype e = H of b list datatype f = I of c | J datatype g = K of c ref datatype h = L of exn",
		[]string{"a", "b", "e", "g", "b list", "c ref"},
		[]string{"c", "d", "f", "h", "b * c", "c list"})
	holdEquality(t, "datatype 'a t = A | B of 'a * 'a t datatype 'a u = C of 'a ref datatype 'a v = D of 'a -> 'a datatype 'a w = E datatype ('a, 'b) x = F of 'a",
		[]string{"int t", "int t t", "int u", "int w", "(int, int) x", "real ref t"},
		[]string{"real t", "real u", "int v", "real w", "(real, int) x", "(int, real) x", "real t t"})
	holdEquality(t, "datatype t = A of u | B and u = C of t | D of int", []string{"t", "u"}, nil)
	holdEquality(t, "datatype t = A of u | B and u = C of t | D of real", nil, []string{"t", "u"})
	holdEquality(t, "datatype t = A of u | B and u = C of u | D of v and v = E and w = F of t and x = G of real | H of t", []string{"t", "u", "v", "w"}, []string{"x"})
	holdEquality(t, "datatype t = A of u and u = B of v and v = C of w and w = D of int -> int and x = E of y and y = F of x", []string{"x", "y"}, []string{"t", "u", "v", "w"})
	holdEquality(t, "datatype 'a t = A of 'a u list and 'a u = B of 'a t | C of 'a | D of real ref", []string{"int t", "int u"}, []string{"real t", "real u"})
	holdEquality(t, "datatype 'a t = A of 'a u list and 'a u = B of 'a t | C of 'a | D of real", nil, []string{"int t", "int u"})
	holdEquality(t, "datatype t = A of (t -> t) ref", []string{"t"}, nil)
	holdEquality(t, "datatype t = A of t -> t", nil, []string{"t"})
	holdEquality(t, "datatype int = A of real", nil, []string{"int"})
	holdEquality(t, "type t = real datatype u = A of t datatype t = B of int datatype v = C of t", []string{"t", "v"}, []string{"u"})
	hold(t, []row{
		{"datatype 'a t = A of 'a fun eq (x : 'b t, y) = x = y", "eq : ''a t * ''a t -> bool"},
		{"datatype 'a t = A of 'a ref fun eq (x : 'b t, y) = x = y", "eq : ''a t * ''a t -> bool"},
	})
}

// P5.1: variables ”a that are written stand for types that have equality alone.
func TestWrittenEquality(t *testing.T) {
	hold(t, []row{
		{"fun f (x : ''a) (y : 'a) = x", "f : ''a -> 'b -> ''a"},
		{"fun f (x : ''a) = x val y = f 1", "f : ''a -> ''a; y : int"},
		{"datatype ''a t = A of ''a val f = A", "f : ''a -> ''a t"},
		{"datatype ''a t = A of ''a fun f (A x) = x", "f : ''a t -> ''a"},
		{"type ''a t = ''a list fun f (x : 'b t) = x", "f : ''a list -> ''a list"},
		{"type ''a t = int fun f (x : 'b t) (y : 'b) = x", "f : int -> ''a -> int"},
	})
	refused(t, []row{
		{"fun f (x : ''a) = x val y = f 1.0", "fun f (x : ''a) = x val y = f 1"},
		{"fun f (x : ''a) = x val y = f Div", "fun f (x : 'a) = x val y = f Div"},
		{"fun f (x : ''a) = x val y = f f", "fun f (x : 'a) = x val y = f f"},
		{"fun f (x : ''a) = x + 1.0", "fun f (x : ''a) = x + 1"},
		{"datatype ''a t = A of ''a val x = A 1.0", "datatype ''a t = A of ''a val x = A 1"},
		{"datatype ''a t = A of ''a fun f (x : real t) = x", "datatype ''a t = A of ''a fun f (x : int t) = x"},
		{"type ''a t = ''a val x : real t = 1.0", "type ''a t = ''a val x : int t = 1"},
		{"type ''a t = ''a type u = real t", "type ''a t = ''a type u = int t"},
		{"type ''a t = ''a type 'a u = 'a t", "type ''a t = ''a type ''a u = ''a t"},
		{"type ''a t = ''a exception E of real t", "type ''a t = ''a exception E of int t"},
		{"datatype ''a t = A of ''a | B of u t and u = C of real", "datatype ''a t = A of ''a | B of u t and u = C of int"},
		{"type ''a t = ''a signature T = sig val x : 'a t end", "type ''a t = ''a signature T = sig val x : ''a t end"},
		{"structure S : sig val f : 'a -> 'a -> bool end = struct fun f x y = x = y end", "structure S : sig val f : ''a -> ''a -> bool end = struct fun f x y = x = y end"},
		{"structure S : sig val f : real -> bool end = struct fun f x = x = x end", "structure S : sig val f : int -> bool end = struct fun f x = x = x end"},
	})
}

// P5.1: a hidden type has no equality, whatever it is; another one keeps it.
func TestHiddenEquality(t *testing.T) {
	for _, is := range []string{"type t = int", "datatype t = A", "type t = unit"} {
		holdEquality(t, "structure S :> sig type t end = struct "+is+" end", nil, []string{"S.t", "S.t list"})
		holdEquality(t, "structure S : sig type t end = struct "+is+" end", []string{"S.t", "S.t list"}, nil)
	}
	holdEquality(t, "structure S :> sig type 'a t type u = int datatype d = A of int type v = int t end = struct type 'a t = 'a ref type u = int datatype d = A of int type v = int t end",
		[]string{"S.u", "S.d", "S.v ref"}, []string{"int S.t", "S.v"})
	holdEquality(t, "structure S : sig type t end = struct type t = real end", nil, []string{"S.t"})
	holdEquality(t, "structure S :> sig type t end = struct type t = int end datatype u = U of S.t", []string{"u ref"}, []string{"u"})
}

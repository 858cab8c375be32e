package types_test

import (
	"strings"
	"testing"
)

// P5.1, P5.2: structures without signatures, and other names of structures.
func TestStructures(t *testing.T) {
	hold(t, []row{
		{"structure S = struct end", ""},
		{"structure S = struct fun id x = x datatype t = A of int type u = t exception E of u val a = A 1 end val b = S.id S.a fun f (S.A n) = n | f _ = 0 val c : S.u = b val d = S.E c", "b : S.t; f : S.t -> int; c : S.t; d : exn; S.id : 'a -> 'a; S.a : S.t"},
		{"structure S = struct fun id x = x end structure T = S val a = (T.id 1, S.id true)", "a : int * bool; S.id : 'a -> 'a; T.id : 'a -> 'a"},
		{"structure S = struct datatype t = A end structure T = S val x = [S.A, T.A] fun f T.A = S.A", "x : S.t list; f : S.t -> S.t"},
		{"structure S = struct structure T = struct val x = 1 structure U = struct val y = 2 end end end structure V = S.T structure W = V.U val z = W.y + V.U.y", "z : int; S.T.x : int; S.T.U.y : int; V.x : int; V.U.y : int; W.y : int"},
		{"structure S = struct exception E of int end fun f x = x handle S.E n => n", "f : int -> int"},
		{"structure S = struct exception E of int end structure T = S fun f (T.E n) = n | f (S.E m) = m", "f : exn -> int"},
		{"structure I : sig val toString : int -> string end = Int val x = I.toString 1", "x : string; I.toString : int -> string"},
	})
}

// sigCases are pairs of a signature and a structure that goes through it, or does not.
func sigCases() []struct{ signature, fits, fitsNot string } {
	return []struct{ signature, fits, fitsNot string }{
		{"val x : int", "val x = 1", "val x = true"},
		{"val x : int", "val x = 1", "val y = 1"},
		{"val x : int", "val y = true val x = 1", "val x = 1 val x = true"},
		{"val f : int -> int", "fun f x = x", "fun f x = [x]"},
		{"val f : 'a -> 'a", "fun f x = x", "fun f x = x + 1"},
		{"val f : 'a -> 'b -> 'a", "fun f x y = x", "fun f x y = if true then x else y"},
		{"val f : 'a -> 'a -> 'a", "fun f x y = x", "fun f x y = 1"},
		{"val f : ''a -> ''a -> bool", "fun f x y = x = y", "fun f x y = x + 1 = y"},
		{"val f : ''a -> ''a", "fun f x = x", "fun f x = [x]"},
		{"val f : 'a -> bool", "fun f x = true", "fun f x = x = x"},
		{"val x : int list", "val x = nil", "val x = [nil]"},
		{"val x : {a : int, b : bool}", "val x = {b = true, a = 1}", "val x = {b = true, a = 1, c = 2}"},
		{"val + : int * int -> int", "val op + = op +", "val plus = op +"},
		{"type t", "type t = int", "type 'a t = int"},
		{"type t", "datatype t = A", "type u = int"},
		{"type 'a t", "type 'b t = int", "type t = int"},
		{"type 'a t", "datatype 'a t = A", "datatype ('a, 'b) t = A"},
		{"type ('a, 'b) t", "type ('b, 'a) t = 'a", "type 'a t = 'a"},
		{"type t = int", "type t = int", "type t = bool"},
		{"type t = int", "type u = int type t = u", "datatype t = A"},
		{"type 'a t = 'a list", "type 'b t = 'b list", "type 'a t = int list"},
		{"type 'a t = int", "type 'b t = int", "type 'b t = 'b"},
		{"type 'a t = 'a", "type 'b t = 'b", "type 'b t = 'b * 'b"},
		{"type ('a, 'b) t = 'a * 'b", "type ('b, 'a) t = 'b * 'a", "type ('a, 'b) t = 'b * 'a"},
		{"type t type u = t list", "type t = int type u = int list", "type t = int type u = bool list"},
		{"type t type u = t", "datatype t = A type u = t", "datatype t = A datatype u = B"},
		{"type t type 'a u = t * 'a", "type t = bool type 'a u = bool * 'a", "type t = bool type 'a u = 'a * bool"},
		{"type t val x : t", "type t = int val x = 1", "type t = int val x = true"},
		{"type t val f : t -> t list", "type t = bool fun f x = [x]", "type t = bool fun f x = [[x]]"},
		{"type 'a t val f : 'a -> 'a t", "type 'a t = 'a list fun f x = [x]", "type 'a t = 'a list fun f x = [1]"},
		{"type t val x : t type u = t val y : u list", "type t = int val x = 1 type u = int val y = [2]", "type t = int val x = 1 type u = int val y = 2"},
		{"datatype t = A | B", "datatype t = A | B", "datatype t = B | A"},
		{"datatype t = A | B", "datatype t = A | B", "datatype t = A | B | C"},
		{"datatype t = A | B | C", "datatype t = A | B | C", "datatype t = A | B"},
		{"datatype t = A | B", "datatype t = A | B", "datatype t = A | C"},
		{"datatype t = A of int", "datatype t = A of int", "datatype t = A of bool"},
		{"datatype t = A of int", "datatype t = A of int", "datatype t = A"},
		{"datatype t = A", "datatype t = A", "datatype t = A of int"},
		{"datatype t = A", "datatype t = A", "datatype u = A"},
		{"datatype t = A", "datatype t = A", "datatype u = A type t = u"},
		{"datatype t = A", "datatype u = A datatype t = A", "datatype t = A datatype u = A"},
		{"datatype 'a t = A of 'a | B of 'a t", "datatype 'b t = A of 'b | B of 'b t", "datatype 'a t = A of 'a | B of int t"},
		{"datatype 'a t = A of 'a", "datatype 'b t = A of 'b", "datatype t = A of int"},
		{"datatype ('a, 'b) t = A of 'a * 'b", "datatype ('b, 'a) t = A of 'b * 'a", "datatype ('b, 'a) t = A of 'a * 'b"},
		{"type t datatype u = A of t", "type t = int datatype u = A of int", "type t = int datatype u = A of bool"},
		{"datatype t = A datatype u = B of t", "datatype t = A datatype u = B of t", "datatype u = B of t and t = A of u"},
		{"exception E", "exception E", "exception F"},
		{"exception E", "exception E", "exception E of int"},
		{"exception E of int", "exception E of int", "exception E"},
		{"exception E of int", "exception E of int", "exception E of bool"},
		{"exception E", "exception E", "val E = 1"},
		{"exception E", "exception E", "datatype t = E"},
		{"type t exception E of t", "type t = int exception E of int", "type t = int exception E of bool"},
		{"val E : exn", "exception E", "exception E of int"},
		{"val E : int -> exn", "exception E of int", "exception E of bool"},
		{"val A : 'a -> 'a list", "datatype 'a t = B fun A x = [x]", "datatype 'a t = A of 'a"},
		{"type t val A : t val B : int -> t", "datatype t = A | B of int", "datatype t = A | B of bool"},
		{"", "val x = 1", "val x = y"},
	}
}

// P5.1: each kind of specification, through : and :>.
func TestSignatures(t *testing.T) {
	for _, c := range sigCases() {
		for _, how := range []string{":", ":>"} {
			for _, form := range []string{
				"structure S HOW sig SIG end = struct STR end",
				"signature T = sig SIG end structure S HOW T = struct STR end",
				"structure R = struct STR end structure S HOW sig SIG end = R",
				"structure Q = struct signature T = sig SIG end structure S HOW T = struct STR end end",
				"structure R = struct STR end structure S = R structure S HOW sig SIG end = S",
			} {
				fill := func(str string) string {
					return strings.NewReplacer("HOW", how, "SIG", c.signature, "STR", str).Replace(form)
				}
				refused(t, []row{{fill(c.fitsNot), fill(c.fits)}})
			}
		}
	}
}

// P5.1: a signature is looked at where it stands, whether it is used or not; each specification speaks of those ahead.
func TestSignaturesAlone(t *testing.T) {
	refused(t, []row{
		{"signature T = sig val x : t end", "signature T = sig type t val x : t end"},
		{"signature T = sig val x : t type t end", "signature T = sig type t val x : t end"},
		{"signature T = sig type t val x : int t end", "signature T = sig type 'a t val x : int t end"},
		{"signature T = sig type u = t list end", "signature T = sig type t type u = t list end"},
		{"signature T = sig datatype t = A of u datatype u = B end", "signature T = sig datatype u = B datatype t = A of u end"},
		{"signature T = sig exception E of t end", "signature T = sig datatype t = A exception E of t end"},
		{"signature T = sig type t end val x = fn (y : t) => y", "type t = int signature T = sig type t end val x = fn (y : t) => y"},
		{"signature T = sig val x : {a : int, a : int} end", "signature T = sig val x : {a : int, b : int} end"},
		{"signature T = sig type t end signature U = sig val x : t end", "signature T = sig type t end signature U = sig type t val x : t end"},
	})
	hold(t, []row{
		{"datatype t = A structure S : sig val x : t type t val y : t end = struct val x = A type t = int val y = 1 end", "S.x : t; S.y : int"},
		{"datatype t = A structure S : sig val x : t end = struct type t = int val x = A end", "S.x : t"},
		{"datatype t = A structure S : sig val x : t end = struct datatype t = B val x = B end", "ErrType"},
		{"structure R = struct datatype t = A end structure S : sig val x : R.t end = struct val x = R.A end", "S.x : R.t"},
		{"signature T = sig type t val x : t end structure S : T = struct type t = int val x = 1 end structure U : T = struct type t = bool val x = true end", "S.x : int; U.x : bool"},
	})
}

// P5.1: what is seen of a structure that goes through a signature.
func TestSeen(t *testing.T) {
	const body = " = struct type t = int datatype d = A | B of t val x = 1 fun f x = x exception E val hidden = 2 structure In = struct val y = 3 end end "
	refused(t, []row{
		{"structure S : sig val x : int end" + body + "val z = S.hidden", "structure S : sig val x : int end" + body + "val z = S.x"},
		{"structure S : sig val x : int end" + body + "val z = S.In.y", "structure S" + body + "val z = S.In.y"},
		{"structure S : sig val x : int end" + body + "val z : S.t = 1", "structure S : sig type t end" + body + "val z : S.t = 1"},
		{"structure S : sig val x : int end" + body + "val z = S.A", "structure S : sig datatype d = A | B of int end" + body + "val z = S.A"},
		{"structure S : sig type d end" + body + "val z = S.A", "structure S : sig type d val A : d end" + body + "val z = S.A"},
		{"structure S : sig type d val A : d end" + body + "fun f S.A = 1", "structure S : sig datatype d = A | B of int end" + body + "fun f S.A = 1"},
		{"structure S : sig type d val B : int -> d end" + body + "fun f (S.B x) = x", "structure S : sig datatype d = A | B of int end" + body + "fun f (S.B x) = x"},
		{"structure S : sig val E : exn end" + body + "fun f S.E = 1", "structure S : sig exception E end" + body + "fun f S.E = 1"},
		{"structure S : sig val f : int -> int end" + body + "val z = S.f true", "structure S : sig val f : 'a -> 'a end" + body + "val z = S.f true"},
		{"structure S : sig type d end" + body + "structure T : sig datatype d = A | B of int end = S", "structure S : sig datatype d = A | B of int end" + body + "structure T : sig datatype d = A | B of int end = S"},
		{"structure S :> sig type t val x : t end" + body + "val z = S.x + 1", "structure S : sig type t val x : t end" + body + "val z = S.x + 1"},
		{"structure S :> sig type t val x : t end" + body + "val z : S.t = 1", "structure S :> sig type t = int val x : t end" + body + "val z : S.t = 1"},
		{"structure S :> sig type t val f : t -> t end" + body + "val z = S.f 1", "structure S :> sig type t val f : t -> t val x : t end" + body + "val z = S.f S.x"},
		{"structure S" + body + "structure T :> sig type t val x : t end = S val z = [S.x, T.x]", "structure S" + body + "structure T : sig type t val x : t end = S val z = [S.x, T.x]"},
		{"structure S" + body + "structure T :> sig type t val x : t end = S structure U :> sig type t val x : t end = S val z = [T.x, U.x]", "structure S" + body + "structure T :> sig type t val x : t end = S structure U = T val z = [T.x, U.x]"},
		{"structure S :> sig type t val x : t end" + body + "structure T : sig type t = int end = S", "structure S : sig type t val x : t end" + body + "structure T : sig type t = int end = S"},
		{"structure S :> sig type 'a t val x : int t val f : bool t -> int end = struct type 'a t = 'a list val x = [1] fun f x = 1 end val z = S.f S.x", "structure S : sig type 'a t val x : int t val f : bool t -> int end = struct type 'a t = int val x = 1 fun f x = 1 end val z = S.f S.x"},
		{"structure S :> sig type d end" + body + "structure T : sig datatype d = A | B of int end = S", "structure S :> sig datatype d = A | B of int end" + body + "structure T : sig datatype d = A | B of int end = S"},
	})
	hold(t, []row{
		{"structure S : sig val f : int -> int val g : 'a -> 'a end = struct fun f x = x fun g x = x end", "S.f : int -> int; S.g : 'a -> 'a"},
		{"structure S : sig val f : 'b list -> 'c list -> 'b list end = struct fun f x y = x end", "S.f : 'a list -> 'b list -> 'a list"},
		{"structure S : sig type t val x : t end = struct type t = int * bool val x = (1, true) end", "S.x : int * bool"},
		{"structure S :> sig type t type u = t list val x : u end = struct type t = int type u = int list val x = [1] end", "S.x : S.t list"},
		{"structure S :> sig type t datatype d = A of t exception E of t val x : t end = struct type t = int datatype d = A of t exception E of int val x = 3 end val y = S.A S.x fun f (S.A z) = z val g = fn S.E z => z val h = S.E", "y : S.d; f : S.d -> S.t; g : exn -> S.t; h : S.t -> exn; S.x : S.t"},
		{"structure S :> sig type t datatype d = A of t val x : t end = struct type t = int datatype d = A of t val x = 3 end val y = S.A 1", "ErrType"},
		{"structure S :> sig type t exception E of t end = struct type t = int exception E of int end val y = S.E 1", "ErrType"},
		{"structure S : sig type d val A : d val f : d -> int end = struct datatype d = A | B fun f A = 1 | f B = 2 end", "S.A : S.d; S.f : S.d -> int"},
		{"structure S :> sig type 'a stack val empty : 'a stack val push : 'a * 'a stack -> 'a stack end = struct type 'a stack = 'a list val empty = nil val push = op :: end val x = S.push (1, S.empty)", "x : int S.stack; S.empty : 'a S.stack; S.push : 'a * 'a S.stack -> 'a S.stack"},
	})
}

// P5.2: how constructors of types are told.
func TestConstructorsOfTypesTold(t *testing.T) {
	hold(t, []row{
		{"datatype t = A val x = A", "x : t"},
		{"structure S = struct datatype t = A structure T = struct datatype t = B val y = (A, B) end end val x = (S.A, S.T.B)", "x : S.t * S.T.t; S.T.y : S.t * S.T.t"},
		{"structure S = struct val x = let datatype t = A in A end end", "S.x : S.t"},
		{"structure S = struct datatype t = A end structure T = S val x = T.A", "x : S.t"},
		{"structure S = struct type t = int val x : t = 1 end", "S.x : int"},
		{"datatype t = A datatype t = B datatype t = C val x = (A, B, C)", "x : t * t#2 * t#3"},
		{"datatype t = A datatype t = B datatype t = C val x = C val y = B val z = A", "x : t#3; y : t#2; z : t"},
		{"datatype t = A and u = B datatype u = C and t = D val x = (A, B, C, D)", "x : t * u * u#2 * t#2"},
		{"structure S = struct datatype t = A end structure S = struct datatype t = B val x = B end", "S.x : S.t#2"},
		{"datatype t = A structure S = struct datatype t = B end val x = (A, S.B)", "x : t * S.t"},
		{"val x = let datatype t = A in A end val y = let datatype t = A in A end", "x : t; y : t#2"},
		{"datatype int = A val x = (A, 1)", "x : int#2 * int"},
		{"datatype 'a list = A val x : int list = A val y = [1]", "x : int list#2; y : int list"},
		{"datatype unit = A val x = (A, ())", "x : unit * unit"},
		{"structure S :> sig type t val x : t end = struct type t = int val x = 1 end structure S :> sig type t val x : t end = struct type t = int val x = 1 end", "S.x : S.t; S.x : S.t#2"},
		{"structure R = struct structure S :> sig type t val x : t end = struct type t = int val x = 1 end end", "R.S.x : R.S.t"},
		{"structure S = struct type t = int val x = 1 end structure T :> sig type t val x : t end = S", "S.x : int; T.x : T.t"},
		{"structure S :> sig type t val x : t end = struct datatype t = A val x = A end", "S.x : S.t#2"},
		{"structure S :> sig type t val x : t end = struct datatype u = A type t = u val x = A end", "S.x : S.t"},
		{"structure S :> sig type ('a, 'b) t val x : (int, bool) t end = struct type ('a, 'b) t = 'a * 'b val x = (1, true) end", "S.x : (int, bool) S.t"},
		{"structure S :> sig datatype t = A val x : t end = struct datatype t = A val x = A end", "S.x : S.t"},
	})
}

// P5.4: a program in a structure has types just where it has.
func TestWithinStructure(t *testing.T) {
	for _, program := range programs() {
		inside := told(t, "structure Wrap = struct "+program+" end")
		outside := told(t, program)
		if (inside == "ErrType") != (outside == "ErrType") {
			t.Errorf("%s: %s, but within a structure %s", program, outside, inside)
		}
		if strings.Contains(program, "datatype") || strings.Contains(program, ":>") || outside == "ErrType" || outside == "" {
			continue
		}
		if want := "Wrap." + strings.ReplaceAll(outside, "; ", "; Wrap."); inside != want {
			t.Errorf("%s:\n got  %s\n want %s", program, inside, want)
		}
	}
}

// programs are many small ones.
func programs() []string {
	out := []string{"structure S = struct val r = ref nil fun f x = (S.r := [x]) end", "val r = ref nil structure S = struct val _ = r := [1] end val x = !r"}
	for _, c := range sigCases() {
		out = append(out, "structure S :> sig "+c.signature+" end = struct "+c.fits+" end", "structure S : sig "+c.signature+" end = struct "+c.fitsNot+" end", c.fits, c.fitsNot)
	}
	for _, c := range stillCases() {
		out = append(out, things+"val it = "+c.program, things+"val it = "+c.want, "val it = "+c.program)
	}
	for _, ops := range []string{"fun f x = x + x", "fun f x = x < 1.0", "fun f r = (#a r, r : {a : 'b})", "fun f r = #a r", "fun f (x : 'a) = let fun g (y : 'a) = y in (g 1, x) end", "fun f (x, y) = x = y", "val x = y"} {
		out = append(out, ops, ops+" val z = f 1")
	}
	return out
}

package types_test

import (
	"strconv"
	"strings"
	"testing"

	"smithy/api"
)

func fitsTo(t *testing.T, what, program string, want bool) {
	t.Helper()
	if len(program) > api.MaxSource {
		t.Fatalf("%s: %d bytes", what, len(program))
	}
	if got := told(t, program) != "ErrType"; got != want {
		t.Errorf("%s: %v", what, got)
	}
}

// P5.1: a record has at most MaxArity labels, a fun at most MaxArity patterns.
func TestArity(t *testing.T) {
	for _, n := range []int{api.MaxArity - 1, api.MaxArity, api.MaxArity + 1} {
		may := n <= api.MaxArity
		field := func(between, what string) string {
			return "{" + numbers(n, func(i int) string { return "a" + strconv.Itoa(i) + between + what }, ",") + "}"
		}
		fitsTo(t, "a record", "val x = "+field("=", "1"), may)
		fitsTo(t, "a pattern", "fun f "+field("=", "_")+" = 1", may)
		fitsTo(t, "a type", "fun f (x : "+field(":", "int")+") = 1", may)
		fitsTo(t, "a tuple", "val x = ("+repeat("1", n, ",")+")", may)
		fitsTo(t, "a tuple's pattern", "fun f ("+repeat("_", n, ",")+") = 1", may)
		fitsTo(t, "a product", "fun f (x : "+repeat("int", n, "*")+") = 1", may)
		fitsTo(t, "an abbreviation", "type t = "+repeat("int", n, "*"), may)
		fitsTo(t, "a datatype", "datatype t = A of "+repeat("int", n, "*"), may)
		fitsTo(t, "an exception", "exception E of "+repeat("int", n, "*"), may)
		fitsTo(t, "a specification", "signature T = sig val x : "+repeat("int", n, "*")+" end", may)
		fitsTo(t, "a fun", "fun f "+repeat("_", n, " ")+" = 1", may)
		fitsTo(t, "a fun's second clause", "fun f "+repeat("_", n, " ")+" = 1 | f "+repeat("1", n, " ")+" = 2", may)
		fitsTo(t, "a fun within", "val x = let fun f "+repeat("_", n, " ")+" = 1 in 2 end", may)
		fitsTo(t, "a list", "val x = ["+repeat("1", n, ",")+"]", true)
		fitsTo(t, "clauses", "fun f _ = 1"+strings.Repeat("| f _ = 1", n), true)
	}
	got := told(t, "fun f "+repeat("_", api.MaxArity, " ")+" = 1")
	if !strings.HasPrefix(got, "f : 'a -> 'b -> ") || !strings.HasSuffix(got, "'j39 -> int") || strings.Count(got, "->") != api.MaxArity {
		t.Errorf("%.100s .. %s", got, got[len(got)-100:])
	}
}

// tuple is an expression, or a type, of 1 and n parts.
func tuple(n int, part, between string) string { return "(" + repeat(part, n, between) + ")" }

// P5.1: no type of an expression or a pattern has more than MaxType parts.
func TestGreatness(t *testing.T) {
	const most = api.MaxType
	for more := range 3 {
		n := most - 1 + more // parts
		may := n <= most
		half, rest := (n-3)/2, (n-3)%2 // 1, 1 + half, 1 + half, rest
		val := "val t = " + tuple(half, "1", ",") + " "
		pair := "(t,t" + strings.Repeat(",1", rest) + ")"
		fitsTo(t, "a value", val+"val u = "+pair, may)
		fitsTo(t, "an expression", val+"val _ = ("+pair+"; 1)", may)
		fitsTo(t, "a list", val+"val u = ["+"(t,t"+strings.Repeat(",1", rest)+")"+"]", n+1 <= most)
		ty := "type t = " + tuple(half, "int", "*") + " type u = t * t" + strings.Repeat(" * int", rest) + " "
		fitsTo(t, "a type", ty, true)
		fitsTo(t, "types that are declared", ty+"datatype d = D of u * u exception E of u * u signature T = sig val x : u * u end", true)
		fitsTo(t, "an annotation", ty+"fun f x = (x : u; 1)", may)
		fitsTo(t, "a pattern's annotation", ty+"fun f (x : u) = 1", may)
		fitsTo(t, "a pattern", ty+"fun f (x : t, y : t"+strings.Repeat(", 1", rest)+") = 1", may)
		fitsTo(t, "a pattern of variables", "fun f ("+tuple(half, "_", ",")+", "+tuple(half, "_", ",")+strings.Repeat(", _", rest)+") = 1", may)
		fitsTo(t, "a pattern within", "fun f [("+tuple(half, "_", ",")+", "+tuple(half, "_", ",")+strings.Repeat(", _", rest)+")] = 1", n+1 <= most)
		fitsTo(t, "a function of it", ty+"val f = fn (x : u) => 1", n+2 <= most)
		fitsTo(t, "a fun of it that is not used", ty+"fun f (x : u) (y : u) = x", may)
		fitsTo(t, "a fun of it that is used", ty+"fun f (x : t) (y : t) = x val _ = f", 3*(half+1)+2 <= most)
		fitsTo(t, "a constructor's pattern", ty+"datatype d = D of u fun f (D _) = 1", may)
		fitsTo(t, "a constructor", ty+"datatype d = D of u val x = D", n+2 <= most)
		fitsTo(t, "an exception's pattern", ty+"exception E of u fun f (E _) = 1", may)
		fitsTo(t, "a specified value", ty+"structure S : sig val f : u * u -> int end = struct fun f x = 1 end", true)
		fitsTo(t, "a specified value that is used", ty+"structure S : sig val f : u -> int end = struct fun f x = 1 end val _ = S.f", n+2 <= most)
	}
	// variables count, each place of them
	fitsTo(t, "a record of variables", "val f = fn "+tuple(api.MaxArity-30, "_", ",")+" => 1", true)
	fitsTo(t, "curried", "val f = "+strings.Repeat("fn _ => ", 190)+"1", true)
	fitsTo(t, "999 patterns, used", "fun f "+repeat("_", 999, " ")+" = 1 val _ = f", true)
	fitsTo(t, "1000 patterns, used", "fun f "+repeat("_", 1000, " ")+" = 1 val _ = f", false)
	fitsTo(t, "1000 patterns, used within", "fun f "+repeat("_", 1000, " ")+" = (f; 1)", false)
}

// P5.1: a type becomes too great by what comes behind, even in another declaration.
func TestGreatnessLate(t *testing.T) {
	for more := range 3 { // the type of p becomes one of 2 * (2 + 1 + n) + 2 parts
		n := 995 + more
		program := "type t = " + tuple(n, "int", "*") + " val r = ref nil val p = (r, r, 1) val _ = (case !r of [x : t] => 1 | _ => 2)"
		fitsTo(t, "a reference of "+strconv.Itoa(n), program, 2*(3+n)+2 <= api.MaxType)
		fitsTo(t, "of "+strconv.Itoa(n)+" in a structure", "structure S = struct "+program+" end", 2*(3+n)+2 <= api.MaxType)
	}
	big := "type t = " + tuple(900, "int", "*") + " "
	fitsTo(t, "of which nothing becomes great", big+"val r = ref nil val s = r val _ = (case !r of [x : t] => 1 | _ => 2)", true)
	// the pair has 1 + 2 * (1 + 1 + 901) parts then, with list and ref 2 more each
	fitsTo(t, "a pair of references", big+"val r = ref nil val p = (r, r, r) val _ = (case !r of [x : t] => 1 | _ => 2)", false)
	fitsTo(t, "a pair of references that stays small", "type t = "+tuple(500, "int", "*")+" val r = ref nil val p = (r, r, r) val _ = (case !r of [x : t] => 1 | _ => 2)", true)
	fitsTo(t, "a local pair of references", big+"val r = ref nil val _ = let val p = (r, r, r) in 1 end val _ = (case !r of [x : t] => 1 | _ => 2)", false)
}

func chain(n int, one func(i int) string) string { return numbers(n, one, " ") }

// R1, P5.1: types that become greater than anything come to an end; those that nothing is of do no harm.
func TestGrowing(t *testing.T) {
	at := func(s string) func(i int) string {
		return func(i int) string {
			return strings.NewReplacer("NEXT", strconv.Itoa(i+1), "THIS", strconv.Itoa(i)).Replace(s)
		}
	}
	pairs := "type 'a t0 = 'a * 'a " + chain(60, at("type 'a tNEXT = 'a tTHIS tTHIS"))
	wide := "type 'a t0 = 'a * 'a " + chain(60, at("type 'a tNEXT = ('a * 'a) tTHIS"))
	plain := "type t0 = int * int " + chain(60, at("type tNEXT = tTHIS * tTHIS"))
	same := "type 'a t0 = 'a " + chain(60, at("type 'a tNEXT = 'a tTHIS tTHIS"))
	for _, c := range []struct {
		program string
		may     bool
	}{
		{pairs, true},
		{wide, true},
		{plain, true},
		{pairs + " fun f (x : int t60) = 1", false},
		{wide + " fun f (x : int t60) = 1", false},
		{plain + " fun f (x : t60) = 1", false},
		{pairs + " datatype d = D of int t60 fun f (x : d, y) = x = y", true},
		{pairs + " datatype d = D of real t60 fun f (x : d, y) = x = y", false},
		{pairs + " datatype d = D of int t60 fun f (D _) = 1", false},
		{pairs + " datatype d = D of int t60 val x = D", false},
		{pairs + " structure S : sig type 'a t = 'a t60 end = struct type 'b t = 'b t60 end", true},
		{wide + " structure S : sig type t = int t60 end = struct type t = int t60 end", true},
		{plain + " structure S : sig type t = t60 end = struct type t = t60 end", true},
		{plain + " structure S : sig type t = t60 end = struct type t = t59 end", false},
		{same + " val x : int t60 = 1", true},
		{"fun f0 x = (x, x) " + chain(60, at("fun fNEXT x = fTHIS (fTHIS x)")), false},
		{"fun f0 x = (x, x) " + chain(2, at("fun fNEXT x = fTHIS (fTHIS x)")), true},
		{"fun f x = let " + chain(60, at("val x = (x, x)")) + " in 1 end", false},
		{"fun f x = let " + chain(9, at("val x = (x, x)")) + " in 1 end", true},
		{"fun f (" + numbers(900, named("v"), ", ") + ") = (" + numbers(899, func(i int) string { return at("[vNEXT, (vTHIS, vTHIS)]")(898 - i) }, ", ") + ")", false},
		{"structure S0 = struct end " + chain(60, at("structure SNEXT = struct structure A = STHIS structure B = STHIS end")), true},
		{"structure S0 = struct val x = 1 end " + chain(60, at("structure SNEXT = struct structure A = STHIS structure B = STHIS end")), false},
		{"structure S0 = struct val x = 1 end " + chain(8, at("structure SNEXT = struct structure A = STHIS structure B = STHIS end")), true},
		{wide + " structure S : sig val f : int t60 -> int end = struct fun f x = 1 end", false},
		{pairs + " structure S : sig val f : int t60 -> int end = struct fun f x = 1 end", false},
		{"datatype a0 = A of real " + chain(800, at("and aNEXT = ANEXT of aTHIS")) + " fun f (x : a800, y) = x = y", false},
		{"datatype a0 = A of int " + chain(800, at("and aNEXT = ANEXT of aTHIS")) + " fun f (x : a800, y) = x = y", true},
	} {
		fitsTo(t, c.program[:20]+" .. "+c.program[max(0, len(c.program)-70):], c.program, c.may)
	}
}

// R1: what takes long comes to an end soon enough.
func TestLong(t *testing.T) {
	wide := "val f = fn (" + numbers(998, named("a"), ",") + ") => 1 "
	fitsTo(t, "instances", wide+"val _ = ["+repeat("f", 5000, ",")+"]", true)
	fitsTo(t, "declarations", wide+repeat("val _ = f", 1000, " "), true)
	fitsTo(t, "operators", "fun f x = "+repeat("x", 90, " + "), true)
	fitsTo(t, "selectors within", "fun f r = let "+repeat("fun g x = #a x", 1000, " ")+" in g {a = 1} end", false)
	fitsTo(t, "selectors that follow", "fun f r = let "+repeat("fun g x = #a x val _ = g {a = 1}", 1000, " ")+" in g {a = 1} end", true)
	fitsTo(t, "many lets", "fun f x = let "+numbers(1500, func(i int) string { return "fun g" + strconv.Itoa(i) + " x = (x, x < x)" }, " ")+" in g0 1.0 end", true)
}

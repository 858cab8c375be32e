package syntax_test

import (
	"reflect"
	"strings"
	"testing"

	"smithy/api"
	"smithy/syntax"
)

// P4.2: programs that are written as Print writes them: a line for each declaration, no parenthesis and no op that could
// be left away.
func TestPrintedAsWritten(t *testing.T) {
	for _, source := range []string{
		"",
		"val x = 1 + 2 * 3 - (4 - 5) :: (1 :: 2) :: 3 = f x",
		"val x = (1 + 2) * (3 * 4) = (a = b)",
		"val x = f (g x) (1, ~2, ()) [1, [2], []] {a = 1, 2 = \"\\n\\t\\\\\\\"\\000 ~\\127\\255\"} #a #1",
		"val x = op + :: op + x :: op = (1, 2, 3) :: S.a b",
		"val x = {1 = a} :: {2 = a, 1 = b} :: (a, b) :: (a, b, c)",
		"val x = (fn x => x) (raise x) : int : int -> int",
		"val x = a andalso b andalso c orelse (d orelse e) orelse f",
		"val x = (a andalso b) andalso (c orelse d)",
		"val x = a : t andalso (b orelse c) : t orelse (raise d) orelse if a then b else c orelse d",
		"val x = a handle b => c handle d => e | _ => 1",
		"val x = (a handle b => c) handle d => (e handle f => g) | _ => raise a handle b => c",
		"val x = case a of b => if a then b else raise c | _ => (fn b => c) | _ => fn b => fn c => d",
		"val x = case case a of b => c of d => while a do (b; c; raise d) | _ => while a + b do b + c",
		"val x = if fn a => b then fn a => b else fn a => b",
		"val x = (raise fn x => a) b + (if a then b else fn x => a)",
		"val x = let in a end",
		"val x = let infix 3 ++ val x = a ++ b in a ++ b; c; fn a => b end",
		"val x = 1.5 :: 0.1 :: ~0.0 :: 100.0 :: 1e30 :: 5e~324 :: 1e309 :: ~1e309 :: #\"a\" :: #\"\\\"\"",
		"val (x, _, y :: z) = 1",
		"val x as y as (z as a) :: b : int = 1",
		"val (x as y) : int : int = 1",
		"val A (B x) :: S.C :: [] = 1",
		"val {a = x, 1 = y : int} :: op + :: op = (x, y) = 1",
		"val [1, ~1, #\"\\n\", \"\"] = op o",
		"fun f x y : int = 1 | f (A x) (x : int) = (case x of 1 => 2) | f _ _ = raise x and + (x, y) = x",
		"fun f x = fn y => y",
		"fun f x : int = a + b | f S.A = (a handle x => b) | f x = a orelse b handle x => b",
		"val A S.B = C",
		"datatype t = A | B of int * t and ('a, 'b) u = = of 'a -> 'b and 'a v = o",
		"type 'a t = ('a -> 'b) -> 'c -> ('a * 'b) * 'c list * (int, 'a -> 'b) S.t",
		"type t = {} * {a : int} * {1 : int} * ('a -> 'b) list",
		"exception E\nexception F of int",
		"infix ++ --\ninfixr 9 **\nnonfix ++ +\nval x = ++ (1, 2) ** + 3 - op *",
		"structure S = struct infix 5 ++ val x = a ++ b structure T = A.B end\nval x = ++ a",
		"structure S : sig val + : int type t type t = int datatype t = A exception E exception E of int end = struct end",
		"structure S :> A = B",
		"signature S = sig end",
	} {
		if source != "" {
			source += "\n"
		}
		l, m := syntax.Parse(source)
		if m.Code != api.OK {
			t.Errorf("%q: %v", source, m)
			continue
		}
		reads(t, source, l...)
		if printed := syntax.Print(l); printed != source {
			t.Errorf("printed\n%sfor\n%s", printed, source)
		}
	}
}

// P4.2: with no more blanks than are needed, where the text would be too long else.
func TestPrintedTight(t *testing.T) {
	for source, want := range map[string]string{
		"val x = 1 + ~2 * f ~3 :: ~ 4":              "val x=1+ ~2*f~3:: ~ 4",
		"val x = # a #\"a\" \"b\" \"c\" # 1 2":      "val x= #a#\"a\"\"b\"\"c\"#1 2",
		"nonfix * val x = ( * 1)":                   "nonfix*val x= *1",
		"val x = 1000000.0 :: 1234.5 :: 0.00001":    "val x=1e6::1234.5::1e~5",
		"fun f _ = 1 val y = (a, b) val z = a":      "fun f _=1 val y=(a,b)val z=a",
		"type 'a t = 'a * 'a -> {a : 'a} type u=t ": "type 'a t='a*'a->{a:'a}type u=t",
		"val a = A Z a z A0 A9 z_ z' 0 a 9 z (b)":   "val a=A Z a z A0 A9 z_ z' 0 a 9 z b",
		"infix 6 ++ val x = op ++ val y = S.a ++ b": "infix 6++val x=op++val y=S.a++b",
	} {
		l, m := syntax.Parse(source)
		if m.Code != api.OK {
			t.Errorf("%q: %v", source, m)
			continue
		}
		tight := syntax.PrintTight(l)
		again, m := syntax.Parse(tight)
		if tight != want || m.Code != api.OK || !reflect.DeepEqual(l, again) {
			t.Errorf("%q: printed as %q, want %q: %v", source, tight, want, m)
		}
	}
	// Programs that fill a text all but up to its end.
	for _, source := range []string{
		"val x=[" + strings.Repeat("1,", 32000) + "1]",
		"val x=" + strings.Repeat("(a,", 198) + "a" + strings.Repeat(")", 198) + "val x=[" + strings.Repeat("~1.5e9,", 9000) + "1]",
		"val x=[" + strings.Repeat("(a;b),", 10000) + "1]",
		"val x=[" + strings.Repeat("fn _=>a,", 8000) + "1]",
		"val x=[" + strings.Repeat("1+2,", 16000) + "1]",
		"val[" + strings.Repeat("x::y,", 13000) + "1]=1",
		strings.Repeat("val x=1 ", 8192),
		"val x=\"" + strings.Repeat(`\001`, 16000) + `"`,
		"val x=[" + strings.Repeat("op+,", 16000) + "1]",
		"val x:{" + strings.Repeat("a:t*t,", 10000) + "a:t}=1",
	} {
		l, m := syntax.Parse(source)
		if m.Code != api.OK {
			t.Fatalf("%.40q: %v", source, m)
		}
		if len(syntax.Print(l)) > len(source)+1 && len(syntax.Print(l)) > api.MaxSource {
			t.Errorf("%.40q: %d bytes", source, len(syntax.Print(l)))
		}
		reads(t, source, l...)
	}
}

// P4.2: names are told from operators as they are where they stand.
func TestPrintedOperators(t *testing.T) {
	for _, source := range []string{
		"nonfix + val x = f + + + (1, 2)",
		"infix f val x = op f op f 1 f op f",
		"infix f val op f = 1 val op f x f y = 1 fun f x = 1 | op f y = 2 datatype t = f of f val f as x = 1",
		"val x = let nonfix :: in :: (1, 2) end :: let infix 2 ++ in 1 ++ 2 end",
		"structure S = struct nonfix = infixr 3 + val x = op = (1, 1 + 2 + 3) end val x = 1 = 1 + 2 + 3",
		"infixr 4 = val x = 1 = 2 = 3 val x = (1 = 2) = 3",
		"infix 4 ++ infixr 4 ** val x = (1 ++ 2) ** 3 val x = 1 ** (2 ++ 3) val x = (1 ** 2) ++ 3 val x = 1 ++ (2 ** 3)",
		"infix 4 ++ infixr 4 ** val (x ++ y) ** z = 1 val x ** (y ++ z) = 1 val (x ** y) ++ z = 1 val x ++ (y ** z) = 1",
		"infix 9 f val x = (a f b) (c f d) f e val A (x f y) f z = 1",
		"infix f infix = val x = op f [1, 2] val x = op f {1 = a, 3 = b} val x = op f (a, b, c) val x = op = (1, 2)",
		"infix o2 val op o2 [x, y] = 1 val op o2 {1 = x, 3 = y} = 1 val op o2 (x, y) = 1 val op = (x, y) = 1",
	} {
		l, m := syntax.Parse(source)
		if m.Code != api.OK {
			t.Fatalf("%q: %v", source, m)
		}
		reads(t, source, l...)
	}
}

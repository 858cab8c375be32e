package source_test

import (
	"strconv"
	"strings"
	"testing"
)

// P6.4: val.
func TestVal(t *testing.T) {
	hold(t, []row{
		{`val (a, b :: [c]) = ("1", ["2", "3"]) val _ = print (c ^ b ^ a)`, "321"},
		{`val {x = a, y = b as (c, _)} = {y = ("1", 2), x = "3"} val _ = print (a ^ c ^ #1 b)`, "311"},
		{`val 1 = 1 val _ = print "a" val 1 = 2 val _ = print "b"`, "a" + uncaught + "Bind =1"},
		{`val [x] = [1, 2]`, uncaught + "Bind =1"},
		{`val x :: _ = (print "a"; nil : int list)`, "a" + uncaught + "Bind =1"},
		{`val "a" = "b"`, uncaught + "Bind =1"},
		{`val true = false`, uncaught + "Bind =1"},
		{`val _ = let val (1, x) = (2, 3) in print "a" end handle Bind => print "bind"`, "bind"},
		{`fun f x = let val [y] = x in y end val _ = print (f ["a"]) val _ = print (f [] handle Bind => "b")`, "ab"},
		{`datatype t = A | B of string val B s = B "x" val _ = print s val A = B "y"`, "x" + uncaught + "Bind =1"},
		{`val x = "1" val (x, y) = (x ^ "2", x ^ "3") val _ = print (x ^ y)`, "1213"},
		{`exception E val e as E = E val _ = (raise e) handle E => print "e"`, "e"},
	})
}

// P6.4: exceptions and datatypes.
func TestDeclared(t *testing.T) {
	hold(t, []row{
		{`fun f n = let exception E of int in if n = 0 then raise E 0 else (f (n - 1)) handle E m => print "caught" end val _ = f 2 handle _ => print "not"`, "not"},
		{`fun f n = let exception E in (if n = 0 then raise E else f (n - 1)) handle E => print (Int.toString n) end val _ = f 2`, "0"},
		{`datatype 'a tree = Leaf | Node of 'a tree * 'a * 'a tree fun add (Leaf, x) = Node (Leaf, x, Leaf) | add (t as Node (l, y, r), x) = if x < y then Node (add (l, x), y, r) else if y < x then Node (l, y, add (r, x)) else t
			fun all Leaf = "" | all (Node (l, x, r)) = all l ^ Int.toString x ^ all r fun from [] = Leaf | from (x :: l) = add (from l, x) val _ = print (all (from [3, 1, 2, 5, 4, 3]))`, "12345"},
		{`datatype t = A of u | B and u = C of t | D fun f (A u) = "a" ^ g u | f B = "b" and g (C t) = "c" ^ f t | g D = "d" val _ = print (f (A (C (A D))) ^ f (A (C B)))`, "acadacb"},
		{`datatype t = T of t -> string val f = fn (T g) => fn x => g x val _ = print (f (T (fn _ => "self")) (T (fn _ => "other")))`, "self"},
		{`datatype t = :: of int * int val 1 :: x = 1 :: 2 val _ = print (Int.toString x) val [y] = [3] val _ = print (Int.toString y)`, "23"},
		{`datatype t = true | false val x = true val _ = print (case x of false => "f" | true => "t") val _ = print (if 1 = 1 then "yes" else "no")`, "tyes"},
		{`datatype t = nil | Z val _ = print (case nil of Z => "z" | nil => "n") val _ = print (case [] of [_] => "one" | _ => "none")`, "nnone"},
		{`infix 5 ++ datatype e = N of int | ++ of e * e fun eval (N n) = n | eval (a ++ b) = eval a + eval b val _ = print (Int.toString (eval (N 1 ++ N 2 ++ N 3)))`, "6"},
	})
}

// P6.4: structures, and their names.
func TestStructures(t *testing.T) {
	hold(t, []row{
		{`structure S = struct val x = "1" fun f y = x ^ y val x = "2" end val _ = print (S.f "a" ^ S.x)`, "1a2"},
		{`structure S = struct val _ = print "in" val x = 1 end val _ = print "out"`, "inout"},
		{`val x = "o" structure S = struct val y = x val x = "i" val z = x end val _ = print (S.y ^ S.z ^ S.x ^ x)`, "oiio"},
		{`structure S = struct structure T = struct structure U = struct val x = "u" end val x = "t" ^ U.x end val x = "s" ^ T.x ^ T.U.x end val _ = print (S.x ^ S.T.x ^ S.T.U.x)`, "stuutuu"},
		{`structure S = struct val x = "1" end structure S = struct val y = S.x ^ "2" end val _ = print S.y`, "12"},
		{`structure S = struct val x = "1" end structure T = S structure S = struct val x = "2" end val _ = print (T.x ^ S.x)`, "12"},
		{`structure S = struct structure T = struct val x = "1" end end structure U = S.T val _ = print U.x`, "1"},
		{`structure S = struct datatype t = A | B of string fun f A = "a" | f (B s) = s end val _ = print (S.f S.A ^ S.f (S.B "b") ^ (case S.B "c" of S.A => "a" | S.B s => s))`, "abc"},
		{`structure S = struct exception E of string fun f s = raise E s end val _ = print (S.f "x" handle S.E s => s)`, "x"},
		{`structure S = struct fun even 0 = true | even n = odd (n - 1) and odd 0 = false | odd n = even (n - 1) end val _ = print (if S.even 4 then "yes" else "no")`, "yes"},
		{`structure S : sig val f : int -> string end = struct fun g n = Int.toString n fun f n = g (n + 1) end fun g n = "outer" val _ = print (S.f 1 ^ g 1)`, "2outer"},
		{`signature T = sig type t val make : int -> t val get : t -> int end structure S :> T = struct datatype t = Hidden of int fun make n = Hidden (n + 1) fun get (Hidden n) = n * 10 end val _ = print (Int.toString (S.get (S.make 3)))`, "40"},
		{`structure S : sig datatype t = A | B of int end = struct datatype t = A | B of int val A' = A end val _ = print (case S.B 7 of S.A => "a" | S.B n => Int.toString n)`, "7"},
		{`structure S = struct val S = "value" structure S = struct val S = "inner" end end val S = "outer" val _ = print (S ^ S.S ^ S.S.S)`, "outervalueinner"},
		{`val S = "value" val T = 1 structure S = struct val x = "x" end structure T = S val _ = print (S ^ S.x ^ T.x ^ Int.toString T)`, "valuexx1"},
		{`structure S = struct val x = "x" end val S = "value" val _ = print (S ^ S.x) fun f S = S ^ S.x val _ = print (f "arg")`, "valuexargx"},
		{`structure I = Int val _ = print (I.toString 3) structure Int = struct fun toString n = "mine" end val _ = print (Int.toString 4 ^ I.toString 5)`, "3mine5"},
		{`structure V : sig val length : 'a vector -> int end = Vector val _ = print (Int.toString (V.length (Vector.fromList [1, 2])))`, "2"},
		{`structure S = struct structure String = String structure Q = struct structure B = Bytes end end val _ = print (str (S.String.sub ("abc", 1)) ^ Int.toString (S.Q.B.length (Bytes.new 3)))`, "b3"},
		{`structure S = struct infix ++ fun op ++ (a, b) = a ^ b ^ a val x = "1" ++ "2" end val _ = print S.x`, "121"},
		{`structure S = struct val r = ref 1 end structure T = S val _ = T.r := 5 val _ = print (Int.toString (!S.r))`, "5"},
		{`structure S = struct val x = raise Div end val _ = print "a"`, uncaught + "Div =1"},
		{`structure S = struct end val _ = print "empty"`, "empty"},
	})
}

// Programs of very many names, of records and functions as wide as they may be.
func TestWide(t *testing.T) {
	numbers := func(n int, one func(i int) string, between string) string {
		var out []string
		for i := range n {
			out = append(out, one(i))
		}
		return strings.Join(out, between)
	}
	name := func(i int) string { return "x" + strconv.Itoa(i) }
	wide := func(i int) string { return "a" + strconv.Itoa(1023-i) + "=" + strconv.Itoa(i) }
	bound := func(i int) string { return "a" + strconv.Itoa(i) + "=" + name(i) }
	hundred := func(i int) string { // what is nested is no deeper than it may be
		return "val f = f " + numbers(100, func(j int) string { return strconv.Itoa(100*i + j) }, " ")
	}
	hold(t, []row{
		{numbers(4000, func(i int) string { return "val " + name(i) + "=" + strconv.Itoa(i) }, " ") + " val _ = print (Int.toString (x0 + x3999 * 10))", "39990"},
		{"val r = {" + numbers(1024, wide, ",") + "} val _ = print (Int.toString (#a1000 r)) val {" + numbers(1024, bound, ",") + "} = r val _ = print (\" \" ^ Int.toString (x24 * 10000 + x1023))", "23 9990000"},
		{"fun f " + numbers(900, name, " ") + " = x7 - x899 " + numbers(9, hundred, " ") + " val _ = print (Int.toString f)", "~892"},
		{"val (" + numbers(500, name, ",") + ") = (" + numbers(500, strconv.Itoa, ",") + ") val _ = print (Int.toString (x499 - x10))", "489"},
		{"val [" + numbers(2000, name, ",") + "] = [" + numbers(2000, strconv.Itoa, ",") + "] val _ = print (Int.toString (x1999 - x10))", "1989"},
		{"datatype t = " + numbers(1500, func(i int) string { return "A" + strconv.Itoa(i) + " of int" }, " | ") + " val _ = print (case A1444 7 of A1443 n => \"no\" | A1444 n => Int.toString n | _ => \"no\")", "7"},
	})
}

// Calls, handlers, texts nested as deep as there are steps.
func TestDeep(t *testing.T) {
	hold(t, []row{
		{"fun f n = 1 + f (n + 1) val _ = f 0", " .."},
		{"fun f n = 1 + (f (n + 1) handle Div => 0) val _ = f 0", " .."},
		{"fun f 0 = raise Match | f n = (f (n - 1)) handle Div => 0 val _ = f 1500 handle Match => (print \"m\"; 1)", "m"},
		{"fun f 0 = raise Match | f n = (f (n - 1)) handle Div => 0 val _ = f 1500", uncaught + "Match =1"},
		{"fun f 0 = exit 3 | f n = (f (n - 1)) handle Div => 0 val _ = f 1500", " =3"},
		{"fun f 0 = raise Match | f n = (f (n - 1)) handle e => raise e val _ = f 1000 handle Match => (print \"m\"; 1)", "m"},
		{"fun up 0 l = l | up n l = up (n - 1) (n :: l) val a = up 500 [] val b = up 500 [] val _ = print (if a = b then \"same\" else \"other\")", "same"},
		{"val r = ref [] : int list ref val _ = while true do r := 1 :: !r", " .."},
	})
}

package elab_test

import "testing"

// P8.1: names that hide others.
func TestHiding(t *testing.T) {
	hold(t, []row{
		{`val x = "1" val y = x val x = "2" fun f () = x val x = "3" val _ = print (y ^ f () ^ x)`, "123"},
		{`val x = "o" val _ = print (let val x = "i" in x end ^ x)`, "io"},
		{`fun f f = f ^ "!" val _ = print (f "a")`, "a!"},
		{`fun f x = (fn x => x ^ "2") (x ^ "1") val _ = print (f "0")`, "012"},
		{`fun f x = case x of x :: _ => (case x ^ "'" of x => x) | _ => "none" val _ = print (f ["a"])`, "a'"},
		{`val x = "1" fun f () = x and x () = "function" val _ = print (x ())`, "function"},
		{`val x = "o" val _ = print ((raise Div) handle x => "h") val _ = print x`, "ho"},
		{`fun f 0 = "base" | f n = let fun f _ = "inner" in f n end val _ = print (f 1)`, "inner"},
		{`val print = fn s => print ("<" ^ s ^ ">") val _ = print "a"`, "<a>"},
		{`fun print s = () val _ = print "a"`, ""},
		{`val op + = fn (a, b) => a - b val _ = print (Int.toString (5 + 3))`, "2"},
		{`fun op = (a, b) = "same" val _ = print (1 = 2)`, "same"},
		{`val op > = fn (a, b) => a ^ b val _ = print ("a" > "b")`, "ab"},
		{`val old = op ^ val op ^ = fn (a, b) => old (b, a) val _ = print ("a" ^ "b" ^ "c")`, "cba"},
		{`val size = 3 val _ = print (Int.toString size)`, "3"},
		{`datatype t = size of string | ord val _ = print (case size "a" of size s => s | ord => "b")`, "a"},
		{`exception print of string val _ = (raise print "x") handle print s => exit 4`, " =4"},
		{`datatype t = :: of int * int val 1 :: x = 1 :: 2 val _ = print (Int.toString x) val [y] = [3] val _ = print (Int.toString y)`, "23"},
		{`datatype t = true | false val x = true val _ = print (case x of false => "f" | true => "t") val _ = print (if 1 = 1 then "yes" else "no")`, "tyes"},
		{`datatype t = Z | nil val _ = print (case nil of Z => "z" | nil => "n") val _ = print (case [] of [_] => "one" | _ => "none")`, "nnone"},
		{`datatype t = A | B datatype u = B | A val _ = print (case A of B => "b" | A => "a")`, "a"},
		{`datatype t = A | B val old = A datatype u = B of int | A of int val _ = print (case A 3 of B n => "b" | A n => Int.toString n)`, "3"},
		{`datatype t = A of string fun f (A s) = s datatype t = A of int val _ = print (case A 3 of A n => Int.toString n)`, "3"},
		{`datatype t = Div | Other fun f Div = "constructor" | f Other = "other" val _ = print (f Div) val _ = print (Int.toString (1 div 0))`, "constructor" + uncaught + "Div =1"},
		{`exception A datatype t = A | B val _ = print (case A of A => "a" | B => "b")`, "a"},
		{`datatype t = A | B exception A of int val _ = (raise A 3) handle A n => exit n`, " =3"},
		{`fun f x = let datatype t = A | B exception C in (case A of B => "b" | A => "a") ^ ((raise C) handle C => x) end val _ = print (f "c")`, "ac"},
		{`val ref = 1 val x = ref + 1 val _ = print (Int.toString x)`, "2"},
		{`val Div' = 1 val it = "it" val _ = print it`, "it"},
	})
}

// P8.1: structures are only names.
func TestStructures(t *testing.T) {
	hold(t, []row{
		{`structure S = struct val x = "1" fun f y = x ^ y val x = "2" end val _ = print (S.f "a" ^ S.x)`, "1a2"},
		{`structure S = struct val _ = print "in" val x = 1 end val _ = print "out"`, "inout"},
		{`val x = "o" structure S = struct val y = x val x = "i" val z = x end val _ = print (S.y ^ S.z ^ S.x ^ x)`, "oiio"},
		{`structure S = struct structure T = struct structure U = struct val x = "u" end val x = "t" ^ U.x end val x = "s" ^ T.x ^ T.U.x end val _ = print (S.x ^ S.T.x ^ S.T.U.x)`, "stuutuu"},
		{`structure S = struct val x = "1" end structure S = struct val y = S.x ^ "2" end val _ = print S.y`, "12"},
		{`structure S = struct val x = "1" end structure T = S structure S = struct val x = "2" end val _ = print (T.x ^ S.x)`, "12"},
		{`structure S = struct structure T = struct val x = "1" end end structure U = S.T val _ = print U.x`, "1"},
		{`structure S = struct val x = "1" structure S = struct val x = "2" ^ x end val y = S.x end val _ = print (S.y ^ S.x ^ S.S.x)`, "21121"},
		{`structure S = struct datatype t = A | B of string fun f A = "a" | f (B s) = s end val _ = print (S.f S.A ^ S.f (S.B "b") ^ (case S.B "c" of S.A => "a" | S.B s => s))`, "abc"},
		{`structure S = struct datatype t = A | B end structure T = struct datatype t = B | A end val _ = print (case (S.A, T.A) of (S.B, _) => "1" | (_, T.B) => "2" | (S.A, T.A) => "3")`, "3"},
		{`structure S = struct exception E of string fun f s = raise E s end val _ = print (S.f "x" handle S.E s => s)`, "x"},
		{`structure S = struct fun even 0 = true | even n = odd (n - 1) and odd 0 = false | odd n = even (n - 1) end val _ = print (if S.even 4 then "yes" else "no")`, "yes"},
		{`structure S : sig val f : int -> string end = struct fun g n = Int.toString n fun f n = g (n + 1) end fun g n = "outer" val _ = print (S.f 1 ^ g 1)`, "2outer"},
		{`val x = "outer" structure S : sig val y : string end = struct val x = "inner" val y = x end val _ = print (S.y ^ x)`, "innerouter"},
		{`signature T = sig type t val make : int -> t val get : t -> int end structure S :> T = struct datatype t = Hidden of int fun make n = Hidden (n + 1) fun get (Hidden n) = n * 10 end val _ = print (Int.toString (S.get (S.make 3)))`, "40"},
		{`structure S : sig datatype t = A | B of int end = struct datatype t = A | B of int val A' = A end val _ = print (case S.B 7 of S.A => "a" | S.B n => Int.toString n)`, "7"},
		{`structure S : sig type t val A : t val B : int -> t val show : t -> string end = struct datatype t = C | A | B of int fun show A = "a" | show (B n) = Int.toString n | show C = "c" end val _ = print (S.show S.A ^ S.show (S.B 5))`, "a5"},
		{`structure S : sig val id : int -> int end = struct fun id x = x end structure T : sig end = S val _ = print (Int.toString (S.id 3))`, "3"},
		{`structure S = struct val S = "value" structure S = struct val S = "inner" end end val S = "outer" val _ = print (S ^ S.S ^ S.S.S)`, "outervalueinner"},
		{`val S = "value" val T = 1 structure S = struct val x = "x" end structure T = S val _ = print (S ^ S.x ^ T.x ^ Int.toString T)`, "valuexx1"},
		{`structure S = struct val x = "x" end val S = "value" val _ = print (S ^ S.x) fun f S = S ^ S.x val _ = print (f "arg")`, "valuexargx"},
		{`structure I = Int val _ = print (I.toString 3) structure Int = struct fun toString n = "mine" end val _ = print (Int.toString 4 ^ I.toString 5)`, "3mine5"},
		{`structure V : sig val length : 'a vector -> int end = Vector val f = V.length val _ = print (Int.toString (f (Vector.fromList [1, 2]) + V.length (Vector.fromList [()])))`, "3"},
		{`structure S = struct structure String = String structure Q = struct structure B = Bytes end end val _ = print (str (S.String.sub ("abc", 1)) ^ Int.toString (S.Q.B.length (Bytes.new 3)))`, "b3"},
		{`structure S = struct infix ++ fun op ++ (a, b) = a ^ b ^ a val x = "1" ++ "2" end val _ = print S.x`, "121"},
		{`structure S = struct val r = ref 1 end structure T = S val _ = T.r := 5 val _ = print (Int.toString (!S.r))`, "5"},
		{`structure S = struct val x = raise Div end val _ = print "a"`, uncaught + "Div =1"},
		{`structure S = struct val (x, y) = ("1", "2") val [z] = ["3"] end val _ = print (S.x ^ S.y ^ S.z)`, "123"},
		{`structure S = struct val [z] = [] : int list end val _ = print "a"`, uncaught + "Bind =1"},
		{`structure S = struct end val _ = print "empty"`, "empty"},
		{`structure S = struct type t = int signature U = sig val x : int end end val _ = print "types"`, "types"},
	})
}

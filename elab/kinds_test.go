package elab_test

import (
	"strings"
	"testing"
)

// shown are programs that print what an expression is, behind some declarations.
func shown(ahead string, rows []row) []row {
	var out []row
	for _, r := range rows {
		kind, e, _ := strings.Cut(r.program, ": ")
		switch kind {
		case "int":
			e = "Int.toString (" + e + ")"
		case "bool":
			e = "if " + e + " then \"yes\" else \"no\""
		}
		out = append(out, row{ahead + " val _ = print (" + e + ")", r.want})
	}
	return out
}

// P8.1: each kind of expression.
func TestExpressions(t *testing.T) {
	hold(t, shown(`val x = 5 val y = "why" datatype t = A | B of int | C of int * int`, []row{
		{"int: 12345678901234567890123", "12345678901234567890123"},
		{"int: ~7", "~7"},
		{"int: 0", "0"},
		{"int: Real.floor 2.75", "2"},
		{"int: Real.bits ~1.5", "13832806255468478464"},
		{`text: "a\nb\"\255"`, "a\nb\"\xff"},
		{`text: str #"q"`, "q"},
		{`int: ord #"\255"`, "255"},
		{"int: x", "5"},
		{"text: y", "why"},
		{"int: #2 (1, 2, 3)", "2"},
		{"int: #b {c = 1, b = 2, a = 3}", "2"},
		{"int: #10 {10 = 1, 9 = 2, x = 3, 11 = 4}", "1"},
		{"int: #x {10 = 1, 9 = 2, x = 3, 11 = 4}", "3"},
		{"int: #1 (#2 ((1, 2), (3, 4)))", "3"},
		{"int: let val f = #a in f {a = 1, b = 2} + f {a = 3, b = 4} end", "4"},
		{"int: (#a : {a : int, b : int} -> int) {b = 1, a = 2}", "2"},
		{"int: (fn y => y + x) 1", "6"},
		{"int: (fn () => 3) ()", "3"},
		{"int: (fn _ => 3) (1, 2)", "3"},
		{"int: (fn (y : int) => y) 4", "4"},
		{"int: (fn y as z => y + z) 4", "8"},
		{"int: (fn (a, b) => a - b) (7, 4)", "3"},
		{"int: (fn 1 => 2 | 2 => 3 | n => n * 10) 2", "3"},
		{"int: (fn 1 => 2 | 2 => 3 | n => n * 10) 7", "70"},
		{"int: (fn x => fn y => x - y) 9 4", "5"},
		{"int: case C (3, 4) of A => 0 | B n => n | C (a, b) => a * 10 + b", "34"},
		{"int: case x of y => y + 1", "6"},
		{"int: case x of _ => 1", "1"},
		{"int: case x + 1 of y => y * y", "36"},
		{"int: if x = 5 then 1 else 2", "1"},
		{"int: if x = 6 then 1 else 2", "2"},
		{"bool: x = 5 andalso y = \"why\"", "yes"},
		{"bool: x = 5 andalso y = \"not\"", "no"},
		{"bool: x = 4 andalso 1 div 0 = 1", "no"},
		{"bool: x = 4 orelse y = \"why\"", "yes"},
		{"bool: x = 5 orelse 1 div 0 = 1", "yes"},
		{"bool: x = 4 orelse false", "no"},
		{"int: let val x = 1 val x = x + 1 val x = x * 10 in x end", "20"},
		{"int: (let val x = 1 in x end) + x", "6"},
		{"int: let in x end", "5"},
		{"int: let val _ = x in x; x + 1; x + 2 end", "7"},
		{"int: (1; 2; 3)", "3"},
		{"int: (raise Div) handle Div => 1", "1"},
		{"int: (raise Div) handle Match => 1 | Div => 2", "2"},
		{"int: (raise Div) handle _ => 3", "3"},
		{"int: (raise Div) handle e => 4", "4"},
		{"int: ((raise Div) handle Match => 1) handle Div => 5", "5"},
		{"int: 6 handle Div => 1", "6"},
		{"int: (1 : int) + ((x) : int)", "6"},
		{"bool: [] = ([] : int list)", "yes"},
		{"bool: [1, 2, 3] = 1 :: 2 :: [3]", "yes"},
		{"bool: [1, 2, 3] = [1, 2]", "no"},
		{"bool: (while false do 1) = ()", "yes"},
		{"bool: {} = ()", "yes"},
		{"bool: {a = 1, b = 2} = {b = 2, a = 1}", "yes"},
		{"int: #2 (!(ref (1, 2)))", "2"},
		{"int: (op + : int * int -> int) (1, 2)", "3"},
		{"int: let val p = (7, 2) in op - p end", "5"},
		{"int: op div {2 = 3, 1 = 17}", "5"},
		{"text: String.substring (let val p = (\"abcdef\", 1, 3) in p end)", "bcd"},
	}))
}

// P8.1: each kind of pattern, with values that fit and values that don't.
func TestPatterns(t *testing.T) {
	const ahead = `datatype t = A | B | C of int | D of int * t exception E exception F of int exception G of int * string
		structure S = struct datatype u = A | Z of int exception E of int end val _ = print (case `
	rows := []row{
		{`1 of _ => "any"`, "any"},
		{`"v" of x => x`, "v"},
		{`7 of 6 => "six" | 7 => "seven" | _ => "no"`, "seven"},
		{`~7 of 7 => "seven" | ~7 => "below" | _ => "no"`, "below"},
		{`0 of ~0 => "nought" | _ => "no"`, "nought"},
		{`4294967296 of 0 => "wrapped" | 4294967296 => "whole" | _ => "no"`, "whole"},
		{`#"\255" of #"\000" => "0" | #"\255" => "255" | _ => "no"`, "255"},
		{`"ab" of "" => "empty" | "a" => "a" | "abc" => "abc" | "ab" => "ab" | _ => "no"`, "ab"},
		{`() of () => "unit"`, "unit"},
		{`() of () => "first" | () => "second"`, "first"},
		{`((), 2) of ((), 1) => "1" | ((), n) => Int.toString n`, "2"},
		{`("a", "b") of (x, y) => y ^ x`, "ba"},
		{`(1, 2) of (2, _) => "a" | (_, 1) => "b" | (1, 2) => "c" | _ => "no"`, "c"},
		{`{a = "1", b = "2", c = "3"} of {c = x, a = y, b = z} => x ^ y ^ z`, "312"},
		{`{b = 1, a = 2} of {a = 1, b = 2} => "a" | {b = 1, a = 2} => "b" | _ => "no"`, "b"},
		{`{10 = "ten", 9 = "nine", x = "x"} of {x = a, 10 = b, 9 = c} => a ^ b ^ c`, "xtennine"},
		{`(1, ("in", {z = [["deep"]]})) of (1, (a, {z = [[b]]})) => a ^ b | _ => "no"`, "indeep"},
		{`[] of [_] => "one" | [] => "none" | _ => "no"`, "none"},
		{`["a"] of [] => "none" | [_, _] => "two" | [x] => x | _ => "no"`, "a"},
		{`["a", "b", "c"] of [x] => x | [x, y] => "two" | [x, y, z] => z ^ y ^ x | _ => "no"`, "cba"},
		{`["a", "b", "c"] of [x, y, z, u] => "four" | [_, "c", _] => "c" | [_, "b", x] => x | _ => "no"`, "c"},
		{`["a", "b", "c"] of x :: [y, z] => z | _ => "no"`, "c"},
		{`["a"] of _ :: _ :: _ => "two" | _ :: nil => "one" | nil => "none"`, "one"},
		{`true of false => "no" | true => "yes"`, "yes"},
		{`A of B => "b" | C _ => "c" | A => "a" | D _ => "d"`, "a"},
		{`B of A => "a" | C _ => "c" | B => "b" | D _ => "d"`, "b"},
		{`C 5 of A => "a" | C 4 => "4" | C n => Int.toString n | _ => "no"`, "5"},
		{`C 0 of A => "a" | D _ => "d" | C _ => "c" | B => "b"`, "c"},
		{`D (1, C 2) of D (1, A) => "a" | D (2, C 2) => "b" | D (1, C n) => Int.toString n | _ => "no"`, "2"},
		{`D (1, A) of D p => Int.toString (#1 p) | _ => "no"`, "1"},
		{`S.A of S.Z _ => "z" | S.A => "a"`, "a"},
		{`S.Z 3 of S.Z 2 => "2" | S.Z n => Int.toString n | S.A => "a"`, "3"},
		{`("x", 1) of (x as "y", _) => "y" | (x as _, y as 1) => x ^ Int.toString y | _ => "no"`, "x1"},
		{`["a", "b"] of l as x :: (m as y :: _) => x ^ y ^ (if l = ["a", "b"] andalso m = ["b"] then "!" else "?") | _ => "no"`, "ab!"},
		{`"v" of a as b as c => a ^ b ^ c`, "vvv"},
		{`("v", 1) of (a as (b as c), 1) => a ^ b ^ c | _ => "no"`, "vvv"},
		{`("v", 1) of a as (b as (c, 1)) => #1 a ^ #1 b ^ c | _ => "no"`, "vvv"},
		{`1 of (x : int) => Int.toString x`, "1"},
		{`1 of (2 : int) => "two" | (x as (y : int)) : int => Int.toString (x + y)`, "2"},
		{`E of F _ => "f" | E => "e" | _ => "no"`, "e"},
		{`F 3 of E => "e" | F 2 => "2" | F n => Int.toString n | _ => "no"`, "3"},
		{`G (1, "g") of F _ => "f" | G (2, _) => "2" | G (_, s) => s | _ => "no"`, "g"},
		{`S.E 4 of E => "outer" | S.E n => Int.toString n | _ => "no"`, "4"},
		{`Div of Match => "m" | Div => "d" | _ => "no"`, "d"},
		{`Chr of Match => "m" | Bind => "b" | Div => "d" | Subscript => "s" | Size => "z" | Io => "i" | Domain => "o" | Chr => "c" | _ => "no"`, "c"},
		{`[Match, Bind, Div, Subscript, Size, Io, Domain, Chr] of [Match, Bind, Div, Subscript, Size, Io, Domain, Chr] => "all" | _ => "no"`, "all"},
		{`[E, F 1, Div] of [E, F 2, _] => "a" | [E, F n, Div] => Int.toString n | _ => "no"`, "1"},
		{`(E, E) of (E, F _) => "f" | (F _, E) => "g" | (E, E) => "both" | _ => "no"`, "both"},
		{`(A, B) of (A, A) => "1" | (B, _) => "2" | (_, B) => "3" | _ => "no"`, "3"},
	}
	for i := range rows {
		rows[i].program = ahead + rows[i].program + ")"
	}
	hold(t, rows)
}

// P8.1: what fits nowhere: Match, of val Bind, of handle the value again.
func TestNothingFits(t *testing.T) {
	hold(t, []row{
		{`val _ = (fn 1 => 2) 3`, uncaught + "Match =1"},
		{`val _ = (fn 1 => 2 | 2 => 3) 4`, uncaught + "Match =1"},
		{`val _ = case 1 of 2 => 3`, uncaught + "Match =1"},
		{`val _ = case [] of [_] => 3 | _ :: _ :: _ => 4`, uncaught + "Match =1"},
		{`fun f 1 = 2 val _ = f 3`, uncaught + "Match =1"},
		{`fun f 1 2 = 3 | f 2 1 = 4 val _ = f 1 1`, uncaught + "Match =1"},
		{`fun f x 2 = 3 | f 2 y = 4 val _ = f 1 1`, uncaught + "Match =1"},
		{`fun f x 2 z = 3 val _ = f 1 1`, ""},
		{`fun f x 2 z = 3 val _ = f 1 1 1`, uncaught + "Match =1"},
		{`val 1 = 2`, uncaught + "Bind =1"},
		{`val (1, x) = (2, 3)`, uncaught + "Bind =1"},
		{`val _ = let val [x] = [1, 2] in x end`, uncaught + "Bind =1"},
		{`val _ = let val x :: _ = (print "a"; nil : int list) in print "b" end`, "a" + uncaught + "Bind =1"},
		{`val x as 1 = 2`, uncaught + "Bind =1"},
		{`val _ = (raise Div) handle Match => 1`, uncaught + "Div =1"},
		{`val _ = (raise Div) handle Match => 1 | Bind => 2`, uncaught + "Div =1"},
		{`exception E of int val _ = ((raise E 2) handle E 1 => print "1") handle E n => print ("again " ^ Int.toString n)`, "again 2"},
		{`exception E of int val _ = ((raise E 2) handle Match => print "m" | E 1 => print "1") handle Match => print "m" | E n => print ("again " ^ Int.toString n)`, "again 2"},
		{`val _ = ((fn 1 => 2) 3) handle Match => (print "m"; 1)`, "m"},
		{`val _ = (let val 1 = 2 in 3 end) handle Match => (print "m"; 1) | Bind => (print "b"; 2)`, "b"},
		{`val _ = (case 1 of 2 => (case 1 of 1 => 2)) handle Match => (print "m"; 1)`, "m"},
		{`val _ = (case 1 of 1 => raise Div) handle Match => (print "m"; 1) | Div => (print "d"; 2)`, "d"},
		{`val _ = ((raise Div) handle Div => raise Chr | Chr => (print "no"; 1)) handle Chr => (print "c"; 2)`, "c"},
		{`exception Match exception Bind val _ = (case 1 of 2 => "2") handle Match => "mine"`, uncaught + "Match =1"},
		{`exception Match exception Bind val _ = (let val 1 = 2 in 3 end) handle Bind => 1`, uncaught + "Bind =1"},
	})
}

// P8.1: each kind of declaration.
func TestDeclarations(t *testing.T) {
	hold(t, []row{
		{`val (a, b :: [c]) = ("1", ["2", "3"]) val _ = print (c ^ b ^ a)`, "321"},
		{`val {x = a, y = b as (c, _)} = {y = ("1", 2), x = "3"} val _ = print (a ^ c ^ #1 b)`, "311"},
		{`val x = "1" val (x, y) = (x ^ "2", x ^ "3") val _ = print (x ^ y)`, "1213"},
		{`val x = "1" val y = x val x = "2" val _ = print (y ^ x)`, "12"},
		{`val () = print "u"`, "u"},
		{`val _ = print "u" val _ : int = 1 val x : string = "x" val _ = print x`, "ux"},
		{`fun f x = x fun g x = f (f x) val _ = print (g "a")`, "a"},
		{`fun f 0 = "" | f n = "x" ^ f (n - 1) val _ = print (f 3)`, "xxx"},
		{`fun even 0 = true | even n = odd (n - 1) and odd 0 = false | odd n = even (n - 1) val _ = print (if even 4 then "yes" else "no")`, "yes"},
		{`fun f x = "f" ^ g x and g 0 = "g" | g n = "g" ^ h n and h n = f (n - 1) val _ = print (f 1)`, "fgfg"},
		{`fun f a b c = a ^ b ^ c val g = f "1" val h = g "2" val _ = print (h "3" ^ h "4" ^ g "5" "6")`, "123124156"},
		{`fun f "a" b = b ^ "1" | f a "b" = a ^ "2" | f a b = a ^ b val _ = print (f "a" "b" ^ f "c" "b" ^ f "c" "d")`, "b1c2cd"},
		{`fun f x [] = x | f x (y :: l) = f (x ^ y) l val _ = print (f "0" ["1", "2"])`, "012"},
		{`fun f x 1 "a" = x | f y n s = s ^ Int.toString n val _ = print (f "x" 1 "a" ^ f "y" 1 "b" ^ f "z" 2 "a")`, "xb1a2"},
		{`fun f 1 x "a" y = x ^ y | f n x s y = s ^ Int.toString n ^ y ^ x val _ = print (f 1 "x" "a" "y" ^ f 1 "x" "b" "y" ^ f 2 "z" "a" "u")`, "xyb1yxa2uz"},
		{`fun f a b = a ^ b | f c d = "never" val _ = print (f "1" "2")`, "12"},
		{`fun f _ () x = x val _ = print (f 1 () "x")`, "x"},
		{`fun f (x, y) {a = z, b = _} = x ^ y ^ z val _ = print (f ("1", "2") {b = 0, a = "3"})`, "123"},
		{`fun f (x as 1) y = x + y | f x (y as 2) = x * y | f x y = 0 val _ = print (Int.toString (f 1 5) ^ Int.toString (f 3 2) ^ Int.toString (f 3 3))`, "660"},
		{`fun f x : string = x val _ = print (f "t")`, "t"},
		{`infix 6 ++ fun op ++ (a, b) = a ^ "+" ^ b infixr 6 ** fun op ** (a, b) = a ^ "*" ^ b nonfix ++ val _ = print (++ ("a", "b" ** "c" ** "d"))`, "a+b*c*d"},
		{`type t = int type 'a u = 'a * t val x : string u = ("x", 1) val _ = print (#1 x)`, "x"},
		{`signature T = sig val x : int end val _ = print "s"`, "s"},
		{`datatype 'a tree = Leaf | Node of 'a tree * 'a * 'a tree fun add (Leaf, x) = Node (Leaf, x, Leaf) | add (t as Node (l, y, r), x) = if x < y then Node (add (l, x), y, r) else if y < x then Node (l, y, add (r, x)) else t
			fun all Leaf = "" | all (Node (l, x, r)) = all l ^ Int.toString x ^ all r fun from [] = Leaf | from (x :: l) = add (from l, x) val _ = print (all (from [3, 1, 2, 5, 4, 3]))`, "12345"},
		{`datatype t = A of u | B and u = C of t | D fun f (A u) = "a" ^ g u | f B = "b" and g (C t) = "c" ^ f t | g D = "d" val _ = print (f (A (C (A D))) ^ f (A (C B)))`, "acadacb"},
		{`datatype t = T of t -> string val f = fn (T g) => fn x => g x val _ = print (f (T (fn _ => "self")) (T (fn _ => "other")))`, "self"},
		{`infix 5 ++ datatype e = N of int | ++ of e * e fun eval (N n) = n | eval (a ++ b) = eval a + eval b val _ = print (Int.toString (eval (N 1 ++ N 2 ++ N 3)))`, "6"},
		{`val _ = print (let datatype t = A | B of string fun f A = "a" | f (B s) = s in f A ^ f (B "b") end)`, "ab"},
		{`val r = ref 0 val s = ref 0 val _ = while !r < 3 do (r := !r + 1; s := 0; while !s < !r do (s := !s + 1; print "x"); print ",")`, "x,xx,xxx,"},
		{`val r = ref 0 val _ = (while true do (print "a"; r := !r + 1; if !r = 3 then raise Div else ())) handle Div => print "b"`, "aaab"},
		{`val _ = while true do ()`, " .."},
		{`val r = ref 3 val _ = while (print "c"; !r > 0) do (print "b"; r := !r - 1; 7)`, "cbcbcbc"},
	})
}

// P8.1: exceptions are new each time their declaration is met, and the same under all their names.
func TestExceptions(t *testing.T) {
	hold(t, []row{
		{`fun f n = let exception E of int in if n = 0 then raise E 0 else (f (n - 1)) handle E m => print "caught" end val _ = f 2 handle _ => print "not"`, "not"},
		{`fun f n = let exception E in (if n = 0 then raise E else f (n - 1)) handle E => print (Int.toString n) end val _ = f 2`, "0"},
		{`fun make () = let exception E in (E, fn E => "mine" | _ => "other") end val (a, isA) = make () val (b, isB) = make () val _ = print (isA a ^ isB b ^ isA b ^ isB a)`, "minemineotherother"},
		{`fun make s = let exception E of string in (fn () => raise E s, fn g => g () handle E t => t) end val (a, onA) = make "a" val (b, onB) = make "b" val _ = print (onA a ^ onB b ^ (onA b handle _ => "?"))`, "ab?"},
		{`exception E val old = E exception E val _ = print ((raise old) handle E => "new" | _ => "other")`, "other"},
		{`exception E of int val f = fn E n => n | _ => 0 exception E of int val _ = print (Int.toString (f (E 3)))`, "0"},
		{`exception E fun f () = raise E fun g h = h () handle E => "old" exception E of int val _ = print (g f) val _ = print (g (fn () => raise E 1) handle E n => "new")`, "oldnew"},
		{`structure S = struct exception E end structure T = S structure U = struct structure V = T end val _ = print ((raise S.E) handle U.V.E => "same" | _ => "other")`, "same"},
		{`structure S = struct exception E end exception E val _ = print ((raise S.E) handle E => "outer" | S.E => "inner")`, "inner"},
		{`structure S : sig exception E of int end = struct exception E of int end val _ = print ((raise S.E 3) handle S.E n => Int.toString n)`, "3"},
		{`structure S :> sig exception E val x : exn end = struct exception E val x = E end val _ = print ((raise S.x) handle S.E => "seen")`, "seen"},
		{`structure S : sig val E : exn val F : int -> exn end = struct exception E exception F of int end val _ = raise S.F 1`, uncaught + "F =1"},
		{`structure S : sig val E : exn val is : exn -> bool end = struct exception E fun is E = true | is _ = false end val _ = print (if S.is S.E then "is" else "no")`, "is"},
		{`val e = Div val _ = (raise e) handle Div => print "div"`, "div"},
		{`val _ = (1 div 0) handle Div => (print "div"; 1)`, "div"},
		{`exception Div val _ = (1 div 0) handle Div => (print "mine"; 1)`, uncaught + "Div =1"},
		{`exception Div val _ = (raise Div) handle Div => (print "mine"; 1)`, "mine"},
		{`fun f x = (raise x) handle Io => "io" | Subscript => "sub" | Size => "size" | Domain => "domain" | Chr => "chr" | Bind => "bind"
			val _ = print (f Io ^ f Subscript ^ f Size ^ f Domain ^ f Chr ^ f Bind)`, "iosubsizedomainchrbind"},
		{`fun f g = (g (); "none") handle Io => "io" | Subscript => "sub" | Size => "size" | Domain => "domain" | Chr => "chr" | Div => "div"
			val _ = print (f (fn () => readFile "none") ^ f (fn () => str (String.sub ("", 0))) ^ f (fn () => (Bytes.new ~1; "")) ^ f (fn () => Int.toString (Real.floor (1.0 / 0.0))) ^ f (fn () => str (chr 256)) ^ f (fn () => Int.toString (1 mod 0)))`, "iosubsizedomainchrdiv"},
		{`exception E val _ = raise E`, uncaught + "E =1"},
		{`exception E'1 of int val _ = raise E'1 7`, uncaught + "E'1 =1"},
		{`structure S = struct exception In of string end val _ = raise S.In "x"`, uncaught + "In =1"},
		{`val _ = (raise (print "a"; Div)) handle Div => print "b"`, "ab"},
		{`exception E of exn val _ = (raise E (E Div)) handle E (E Div) => print "nested"`, "nested"},
		{`exception E of int * int val _ = (raise E (1, 2)) handle E {2 = a, 1 = b} => print (Int.toString (a - b))`, "1"},
		{`val _ = (raise Match) handle e => ((raise e) handle Match => print "again")`, "again"},
		{`fun f n = (if n = 0 then raise Chr else f (n - 1)) handle Div => () val _ = f 5 handle Chr => print "through"`, "through"},
	})
}

// P8.1: what ends a run.
func TestEnds(t *testing.T) {
	hold(t, []row{
		{`val _ = exit 0 val _ = print "a"`, ""},
		{`val _ = exit 511`, " =255"},
		{`val _ = exit ~1`, " =255"},
		{`val _ = (print "a"; exit 7; print "b") handle _ => print "c"`, "a =7"},
		{`fun f () = exit 9 val x : int = f () val _ = print "a"`, " =9"},
		{`structure S = struct val x = 1 div 0 end val _ = print "a"`, uncaught + "Div =1"},
		{`val _ = (print "a"; raise Div; print "b") val _ = print "c"`, "a" + uncaught + "Div =1"},
		{`val _ = writeFile ("g", inputLine () ^ inputLine () ^ inputLine ()) val _ = print (readFile "g")`, "[g: one\ntwo]one\ntwo"},
		{`val _ = print (readFile "f" ^ readFile "long")`, "data" + strings.Repeat("d", 300)},
		{`val _ = print (readFile "f") val _ = writeFile ("f", "new") val _ = print (readFile "f")`, "data[f: new]new"},
	})
}

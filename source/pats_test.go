package source_test

import "testing"

// To fit: each kind of pattern, with values that fit and values that don't.
func TestFits(t *testing.T) {
	const ahead = `datatype t = A | B | C of int | D of int * t exception E exception F of int exception G of int * string
		structure S = struct datatype u = A | Z of int exception E of int end val _ = print (case `
	rows := []row{
		{`1 of _ => "any"`, "any"},
		{`"v" of x => x`, "v"},
		{`7 of 6 => "six" | 7 => "seven" | _ => "no"`, "seven"},
		{`~7 of 7 => "seven" | ~7 => "below" | _ => "no"`, "below"},
		{`0 of ~0 => "nought" | _ => "no"`, "nought"},
		{`123456789012345678901234567890 of 123456789012345678901234567891 => "a" | 123456789012345678901234567890 => "b" | _ => "no"`, "b"},
		{`4294967296 of 0 => "wrapped" | 4294967296 => "whole" | _ => "no"`, "whole"},
		{`#"b" of #"a" => "a" | #"b" => "b" | _ => "no"`, "b"},
		{`#"\255" of #"\000" => "0" | #"\255" => "255" | _ => "no"`, "255"},
		{`"ab" of "" => "empty" | "a" => "a" | "abc" => "abc" | "ab" => "ab" | _ => "no"`, "ab"},
		{`"" of "a" => "a" | "" => "empty" | _ => "no"`, "empty"},
		{`() of () => "unit"`, "unit"},
		{`("a", "b") of (x, y) => y ^ x`, "ba"},
		{`(1, 2) of (2, _) => "a" | (_, 1) => "b" | (1, 2) => "c" | _ => "no"`, "c"},
		{`{a = "1", b = "2", c = "3"} of {c = x, a = y, b = z} => x ^ y ^ z`, "312"},
		{`{b = 1, a = 2} of {a = 1, b = 2} => "a" | {b = 1, a = 2} => "b" | _ => "no"`, "b"},
		{`{10 = "ten", 9 = "nine", x = "x"} of {x = a, 10 = b, 9 = c} => a ^ b ^ c`, "xtennine"},
		{`{10 = "ten", 9 = "nine", 2 = "two"} of {2 = a, 9 = b, 10 = c} => a ^ b ^ c`, "twonineten"},
		{`(1, ("in", {z = [["deep"]]})) of (1, (a, {z = [[b]]})) => a ^ b | _ => "no"`, "indeep"},
		{`[] of [_] => "one" | [] => "none" | _ => "no"`, "none"},
		{`["a"] of [] => "none" | [_, _] => "two" | [x] => x | _ => "no"`, "a"},
		{`["a", "b", "c"] of [x] => x | [x, y] => "two" | [x, y, z] => z ^ y ^ x | _ => "no"`, "cba"},
		{`["a", "b", "c"] of [x, y, z, u] => "four" | [_, "c", _] => "c" | [_, "b", x] => x | _ => "no"`, "c"},
		{`["a", "b", "c"] of x :: y :: l => y ^ x | _ => "no"`, "ba"},
		{`["a", "b", "c"] of x :: [y, z] => z | _ => "no"`, "c"},
		{`["a"] of _ :: _ :: _ => "two" | _ :: nil => "one" | nil => "none"`, "one"},
		{`[] : int list of _ :: _ => "some" | nil => "none"`, "none"},
		{`true of false => "no" | true => "yes"`, "yes"},
		{`false of true => "yes" | false => "no"`, "no"},
		{`A of B => "b" | C _ => "c" | A => "a" | D _ => "d"`, "a"},
		{`B of A => "a" | C _ => "c" | B => "b" | D _ => "d"`, "b"},
		{`C 5 of A => "a" | C 4 => "4" | C n => Int.toString n | _ => "no"`, "5"},
		{`C 0 of A => "a" | D _ => "d" | C _ => "c" | B => "b"`, "c"},
		{`D (1, C 2) of D (1, A) => "a" | D (2, C 2) => "b" | D (1, C n) => Int.toString n | _ => "no"`, "2"},
		{`D (1, A) of D (n, x) => (case x of A => "in" | _ => "out") | _ => "no"`, "in"},
		{`D (1, A) of D p => Int.toString (#1 p) | _ => "no"`, "1"},
		{`S.A of S.Z _ => "z" | S.A => "a"`, "a"},
		{`S.Z 3 of S.Z 2 => "2" | S.Z n => Int.toString n | S.A => "a"`, "3"},
		{`("x", 1) of (x as "y", _) => "y" | (x as _, y as 1) => x ^ Int.toString y | _ => "no"`, "x1"},
		{`["a", "b"] of l as x :: (m as y :: _) => x ^ y ^ (if l = ["a", "b"] andalso m = ["b"] then "!" else "?") | _ => "no"`, "ab!"},
		{`1 of (x : int) => Int.toString x`, "1"},
		{`1 of (2 : int) => "two" | (x as (y : int)) : int => Int.toString (x + y)`, "2"},
		{`E of F _ => "f" | E => "e" | _ => "no"`, "e"},
		{`F 3 of E => "e" | F 2 => "2" | F n => Int.toString n | _ => "no"`, "3"},
		{`G (1, "g") of F _ => "f" | G (2, _) => "2" | G (_, s) => s | _ => "no"`, "g"},
		{`S.E 4 of E => "outer" | S.E n => Int.toString n | _ => "no"`, "4"},
		{`E of S.E n => "inner" | E => "outer" | _ => "no"`, "outer"},
		{`Div of Match => "m" | Div => "d" | _ => "no"`, "d"},
		{`Chr of Match => "m" | Bind => "b" | Div => "d" | Subscript => "s" | Size => "z" | Io => "i" | Domain => "o" | Chr => "c" | _ => "no"`, "c"},
		{`[E, F 1, Div] of [E, F 2, _] => "a" | [E, F n, Div] => Int.toString n | _ => "no"`, "1"},
		{`(A, B) of (A, A) => "1" | (B, _) => "2" | (_, B) => "3" | _ => "no"`, "3"},
	}
	for i := range rows {
		rows[i].program = ahead + rows[i].program + ")"
	}
	hold(t, rows)
}

// An exception's pattern fits values with the same cell: not those of another one of that name.
func TestSameNames(t *testing.T) {
	hold(t, []row{
		{`exception E val old = E exception E val _ = print ((raise old) handle E => "new" | _ => "other")`, "other"},
		{`exception E val old = E exception E val _ = print ((raise E) handle E => "new" | _ => "other")`, "new"},
		{`exception E fun f () = raise E fun g h = h () handle E => "old" exception E of int val _ = print (g f) val _ = print (g (fn () => raise E 1) handle E n => "new")`, "oldnew"},
		{`exception E of int val f = fn E n => n | _ => 0 exception E of int val _ = print (Int.toString (f (E 3)))`, "0"},
		{`fun make () = let exception E in (E, fn E => "mine" | _ => "other") end val (a, isA) = make () val (b, isB) = make () val _ = print (isA a ^ isB b ^ isA b ^ isB a)`, "minemineotherother"},
		{`structure S = struct exception E end exception E val _ = print ((raise S.E) handle E => "outer" | S.E => "inner")`, "inner"},
		{`structure S = struct exception E end structure T = S val _ = print ((raise S.E) handle T.E => "same" | _ => "other")`, "same"},
		{`exception Match val _ = print ((case 1 of 2 => "2") handle Match => "mine" | _ => "built in")`, "built in"},
		{`exception Bind val _ = print ((let val 1 = 2 in "2" end) handle Bind => "mine" | _ => "built in")`, "built in"},
		{`structure S : sig exception E of int end = struct exception E of int end val _ = print ((raise S.E 3) handle S.E n => Int.toString n)`, "3"},
		{`structure S :> sig exception E val x : exn end = struct exception E val x = E end val _ = print ((raise S.x) handle S.E => "seen")`, "seen"},
	})
}

package source_test

import (
	"strings"
	"testing"
)

// P6.2: the order in which the parts of an expression are done, by what they print.
func TestOrder(t *testing.T) {
	const ahead = `fun p s x = (print s; x) fun u s = print s `
	rows := []row{
		{`(u "a", u "b", u "c")`, "abc"},
		{`{b = u "b", a = u "a", 2 = u "2", 1 = u "1"}`, "ba21"},
		{`[u "a", u "b", u "c"]`, "abc"},
		{`(p "f" (fn () => u "c")) (p "a" ())`, "fac"},
		{`(p "f" (fn x => (u "1"; fn y => u "2"))) (u "a") (u "b")`, "fa1b2"},
		{`p "a" 1 + p "b" 2 * p "c" 3`, "abc"},
		{`(p "a" 1 + p "b" 2) * p "c" 3`, "abc"},
		{`p "a" 1 :: p "b" [2]`, "ab"},
		{`p "a" (ref 1) := p "b" 2`, "ab"},
		{`p "a" "x" ^ (p "b" "y" ^ p "c" "z")`, "abc"},
		{`if p "a" true then u "b" else u "c"`, "ab"},
		{`if p "a" false then u "b" else u "c"`, "ac"},
		{`p "a" true andalso p "b" true andalso p "c" false andalso p "d" true`, "abc"},
		{`p "a" false orelse p "b" false orelse p "c" true orelse p "d" true`, "abc"},
		{`p "a" true orelse p "b" true`, "a"},
		{`p "a" false andalso p "b" true`, "a"},
		{`p "a" false andalso p "b" true orelse p "c" true`, "ac"},
		{`case p "a" 1 of 0 => u "b" | 1 => u "c" | _ => u "d"`, "ac"},
		{`(u "a"; u "b"; u "c")`, "abc"},
		{`let val _ = u "a" val _ = u "b" in u "c"; u "d" end`, "abcd"},
		{`let val x = p "a" 1 fun f y = p "f" (x + y) val z = f (p "b" 2) in u "c" end`, "abfc"},
		{`(u "a"; raise p "b" Div; u "c") handle Div => u "d"`, "abd"},
		{`(u "a") handle Div => u "b"`, "a"},
		{`#2 (p "a" 1, p "b" 2)`, "ab"},
		{`(p "a" 1) : int`, "a"},
		{`(u "a"; (fn x => u "b")) (u "c"; 1)`, "acb"},
		{`let val r = ref 2 in while (u "c"; !r > 0) do (u "b"; r := !r - 1) end`, "cbcbc"},
		{`print (p "a" "b")`, "ab"},
		{`p (p "1" "2") (p "3" 4)`, "132"},
		{`Int.toString (p "a" 1)`, "a"},
		{`String.substring (p "a" "x", p "b" 0, p "c" 1)`, "abc"},
		{`fn x => u "a"`, ""},
		{`let fun f x = u "a" in f end`, ""},
	}
	for i := range rows {
		rows[i].program = ahead + "val _ = " + rows[i].program
	}
	hold(t, rows)
}

// P6.2: which of two parts raises first.
func TestFirstToRaise(t *testing.T) {
	const ahead = "exception E of int fun r n = raise E n fun ri n : int = r n val it = ("
	const behind = `) handle E n => print (Int.toString n)`
	rows := []row{
		{`(r 1, r 2); ()`, "1"},
		{`{b = r 1, a = r 2}; ()`, "1"},
		{`[r 1, r 2]; ()`, "1"},
		{`(r 1) (r 2); ()`, "1"},
		{`(fn x => x) (r 2); ()`, "2"},
		{`(fn 1 => 2) (r 2); ()`, "2"},
		{`ri 1 + ri 2; ()`, "1"},
		{`1 div ri 2; ()`, "2"},
		{`ri 1 div 0; ()`, "1"},
		{`if r 1 then r 2 else r 3`, "1"},
		{`if true then r 2 else r 3`, "2"},
		{`if false then r 2 else r 3`, "3"},
		{`r 1 andalso r 2; ()`, "1"},
		{`true andalso r 2; ()`, "2"},
		{`false andalso r 2; ()`, ""},
		{`true orelse r 2; ()`, ""},
		{`false orelse r 2; ()`, "2"},
		{`case r 1 of 1 => r 2 | _ => r 3`, "1"},
		{`case 4 of 1 => r 2 | _ => r 3`, "3"},
		{`while r 1 do r 2`, "1"},
		{`while true do r 2`, "2"},
		{`while false do r 2`, ""},
		{`r 1; r 2`, "1"},
		{`(); r 2`, "2"},
		{`raise r 1`, "1"},
		{`raise (E 4)`, "4"},
		{`let val _ = r 1 in r 2 end`, "1"},
		{`let val _ = () in r 2 end`, "2"},
		{`let val x :: _ = (r 1; []) in r 2 end`, "1"},
		{`r 1 handle E n => r (n + 1)`, "2"},
		{`r 1 handle E 0 => r 2`, "1"},
		{`r 1 handle Div => r 2`, "1"},
		{`r 1 handle E 0 => r 2 | E 1 => r 3 | E _ => r 4`, "3"},
		{`(r 1 handle E 1 => r 2) handle E 1 => r 3 | E 2 => r 4`, "4"},
		{`(r 1; ()) : unit`, "1"},
		{`#1 (r 1, r 2); ()`, "1"},
		{`print (r 1 ^ r 2)`, "1"},
		{`(ref (r 1)) := r 2`, "1"},
	}
	for i := range rows {
		rows[i].program = ahead + rows[i].program + behind
	}
	hold(t, rows)
}

// show is a program that prints an integer, a text, a truth.
func show(kind, e string) string {
	switch kind {
	case "int":
		return "val _ = print (Int.toString (" + e + "))"
	case "bool":
		return "val _ = print (if " + e + " then \"yes\" else \"no\")"
	}
	return "val _ = print (" + e + ")"
}

func holdShown(t *testing.T, ahead string, rows []row) {
	t.Helper()
	for _, r := range rows {
		kind, e, _ := strings.Cut(r.program, ": ")
		hold(t, []row{{ahead + show(kind, e), r.want}})
	}
}

// P6.2: what expressions are.
func TestExpressions(t *testing.T) {
	holdShown(t, `val x = 5 val y = "why" datatype t = A | B of int | C of int * int `, []row{
		{"int: 12345678901234567890123", "12345678901234567890123"},
		{"int: ~7", "~7"},
		{`text: "a\nb\"\255"`, "a\nb\"\xff"},
		{`text: str #"q"`, "q"},
		{"int: x", "5"},
		{"text: y", "why"},
		{"int: #2 (1, 2, 3)", "2"},
		{"int: #b {c = 1, b = 2, a = 3}", "2"},
		{"int: #10 {10 = 1, 9 = 2, x = 3, 11 = 4}", "1"},
		{"int: #9 {10 = 1, 9 = 2, x = 3, 11 = 4}", "2"},
		{"int: #x {10 = 1, 9 = 2, x = 3, 11 = 4}", "3"},
		{"int: #1 (#2 ((1, 2), (3, 4)))", "3"},
		{"int: let val f = #a in f {a = 1, b = 2} + f {a = 3, b = 4} end", "4"},
		{"int: (fn y => y + x) 1", "6"},
		{"int: (fn 1 => 2 | 2 => 3 | n => n * 10) 2", "3"},
		{"int: (fn 1 => 2 | 2 => 3 | n => n * 10) 7", "70"},
		{"int: (fn x => fn y => x - y) 9 4", "5"},
		{"int: case C (3, 4) of A => 0 | B n => n | C (a, b) => a * 10 + b", "34"},
		{"int: if x = 5 then 1 else 2", "1"},
		{"int: let val x = 1 val x = x + 1 val x = x * 10 in x end", "20"},
		{"int: (let val x = 1 in x end) + x", "6"},
		{"int: (1; 2; 3)", "3"},
		{"bool: (while false do ()) = ()", "yes"},
		{"int: (raise Div) handle Div => 8", "8"},
		{"int: 1 handle Div => 8", "1"},
		{"int: (1 : int) : int", "1"},
		{"bool: true andalso true", "yes"},
		{"bool: true andalso false", "no"},
		{"bool: false orelse false", "no"},
		{"bool: [1, 2] = 1 :: 2 :: nil", "yes"},
		{"bool: [] = (nil : int list)", "yes"},
		{"bool: {a = 1, b = 2} = {b = 2, a = 1}", "yes"},
		{"bool: (1, 2) = {2 = 2, 1 = 1}", "yes"},
		{"bool: {} = ()", "yes"},
		{"bool: B 3 = (fn f => f 3) B", "yes"},
		{"bool: (op ::) (1, []) = [1]", "yes"},
		{"int: (op +) (1, 2)", "3"},
		{"int: let val p = (4, 5) in op - p end", "~1"},
		{"int: let fun apply f x = f x in apply (fn n => n + 1) 2 end", "3"},
	})
}

// P6.2: fun with several patterns; applied to fewer arguments it is a function, which may be applied again and again.
func TestFunctions(t *testing.T) {
	const ahead = `fun f 0 y z = y ^ z | f x "" z = "e" ^ z | f 1 y "" = "n" | f x y z = Int.toString x ^ y ^ z `
	holdShown(t, ahead, []row{
		{`text: f 0 "a" "b"`, "ab"},
		{`text: f 1 "" "b"`, "eb"},
		{`text: f 1 "a" ""`, "n"},
		{`text: f 2 "a" ""`, "2a"},
		{`text: let val g = f 3 in g "a" "b" ^ g "c" "d" end`, "3ab3cd"},
		{`text: let val g = f 3 val h = g "x" val i = g "y" in h "1" ^ i "2" ^ h "3" end`, "3x13y23x3"},
		{`text: let fun g a b c d e = a ^ b ^ c ^ d ^ e val h = g "1" "2" "3" val i = h "4" val j = h "5" in i "6" ^ j "7" ^ h "8" "9" end`, "123461235712389"},
		{`text: let fun twice f x = f (f x) in twice (f 7 "-") "." end`, "7-7-."},
	})
	hold(t, []row{
		{`fun f 1 2 = 3 val g = f 7 val _ = print "a" val _ = g 2`, "a" + uncaught + "Match =1"},
		{`fun f 1 (x :: _) = 3 val _ = print "a" val _ = f 1 []`, "a" + uncaught + "Match =1"},
		{`fun f (x, 1) = 3 val _ = f (1, 2) handle Match => (print "m"; 4)`, "m"},
		{`fun f 1 = "one" | f 2 = "two" val _ = print (f 2) val _ = print (f 3)`, "two" + uncaught + "Match =1"},
		{`val f = fn 1 => "one" | 2 => "two" val _ = print (f 2) val _ = print (f 3)`, "two" + uncaught + "Match =1"},
		{`val _ = case [1] of [] => 1 | [_, _] => 2`, uncaught + "Match =1"},
		{`val _ = (case 1 of 2 => 1) handle Match => (print "m"; 3)`, "m"},
		{`fun f x y z = (print "b"; x + y + z) val g = f 1 val _ = print "1" val h = g 2 val _ = print "2" val _ = print (Int.toString (h 3))`, "12b6"},
		{`fun even 0 = true | even n = odd (n - 1) and odd 0 = false | odd n = even (n - 1) val _ = if even 10 andalso odd 7 then print "yes" else print "no"`, "yes"},
		{`fun fib n = if n < 2 then n else fib (n - 1) + fib (n - 2) val _ = print (Int.toString (fib 12))`, "144"},
		{`fun map f [] = [] | map f (x :: l) = f x :: map f l fun fold f b [] = b | fold f b (x :: l) = f (x, fold f b l) val _ = print (fold (op ^) "." (map Int.toString [1, 2, 3]))`, "123."},
		{`fun ack 0 n = n + 1 | ack m 0 = ack (m - 1) 1 | ack m n = ack (m - 1) (ack m (n - 1)) val _ = print (Int.toString (ack 2 3))`, "9"},
		{`fun compose f g x = f (g x) val inc = fn n => n + 1 val _ = print (Int.toString (compose inc (compose inc inc) 1))`, "4"},
	})
}

// P6.2: names are known where they were declared, whatever is declared behind.
func TestScopes(t *testing.T) {
	hold(t, []row{
		{`val x = "1" fun f () = x val x = "2" val _ = print (f () ^ x)`, "12"},
		{`val x = "1" val f = fn () => x val x = "2" val _ = print (f () ^ x)`, "12"},
		{`val x = "a" val _ = print (let val x = "b" in x end ^ x)`, "ba"},
		{`val x = "a" val _ = print ((fn x => x) "b" ^ x)`, "ba"},
		{`val x = "a" val _ = print ((case "c" of x => x) ^ x)`, "ca"},
		{`val x = "a" val _ = print (((raise Div) handle x => "d") ^ x)`, "da"},
		{`fun f x = let fun g y = x ^ y in g end val a = f "1" val b = f "2" val _ = print (a "x" ^ b "y" ^ a "z")`, "1x2y1z"},
		{`fun f x = x ^ "1" fun f x = x ^ "2" val _ = print (f "a")`, "a2"},
		{`fun f x = x ^ "1" val g = f fun f x = g x ^ "2" val _ = print (f "a")`, "a12"},
		{`fun count () = let val n = ref 0 in fn () => (n := !n + 1; !n) end val a = count () val b = count () val _ = print (Int.toString (a () + a () * 10 + b () * 100 + a () * 1000))`, "3121"},
		{`datatype t = A | B val a = A val f = fn A => "a" | B => "b" datatype u = C | A | B val _ = print (f a)`, "a"},
		{`val op + = op - val _ = print (Int.toString (5 + 3))`, "2"},
		{`fun op * (x, y) = x ^ y val _ = print ("a" * "b")`, "ab"},
		{`val print = fn s => print ("<" ^ s ^ ">") val _ = print "a"`, "<a>"},
		{`val _ = let val op < = fn (x, y) => "lt" in print (1 < 2) end val _ = print (if 1 < 2 then "yes" else "no")`, "ltyes"},
	})
}

// P6.2: handle.
func TestHandle(t *testing.T) {
	const ahead = `exception E of int exception F exception G of string val _ = print (`
	rows := []row{
		{`(raise E 1) handle E 1 => "one" | E _ => "other" | F => "f"`, "one"},
		{`(raise E 2) handle E 1 => "one" | E _ => "other" | F => "f"`, "other"},
		{`(raise F) handle E 1 => "one" | E _ => "other" | F => "f"`, "f"},
		{`((raise G "g") handle E _ => "e") handle G s => s`, "g"},
		{`((raise E 1) handle E n => raise G "h") handle G s => s | E _ => "e"`, "h"},
		{`((raise E 1) handle F => "f") handle _ => "any"`, "any"},
		{`(raise G "x") handle e => (raise e) handle G s => s ^ s`, "xx"},
		{`(Int.toString (1 div 0)) handle Div => "div"`, "div"},
		{`(Int.toString (1 div 0)) handle Match => "match" | Div => "div"`, "div"},
		{`let fun f 0 = raise F | f n = f (n - 1) ^ "x" in f 5 handle F => "f" end`, "f"},
		{`let fun f 0 = raise F | f n = (f (n - 1)) handle E _ => "e" in f 5 handle F => "through" end`, "through"},
		{`let fun f 0 = raise F | f n = (f (n - 1)) handle F => Int.toString n in f 5 end`, "1"},
		{`(let val x = raise F in "a" end) handle F => "let"`, "let"},
		{`(fn () => raise F) () handle F => "fn"`, "fn"},
		{`let val f = (fn () => raise F) handle F => (fn () => "made") in f () handle F => "called" end`, "called"},
		{`let val r = ref "" in (r := "set"; raise F) handle F => !r end`, "set"},
		{`"" ^ (raise F) handle F => "all"`, "all"},
		{`"kept" ^ ((raise F) handle F => "part")`, "keptpart"},
		{`(case 1 of 2 => "two") handle Match => "match"`, "match"},
		{`(let val 1 = 2 in "x" end) handle Bind => "bind"`, "bind"},
	}
	for i := range rows {
		rows[i].program = ahead + rows[i].program + ")"
	}
	hold(t, rows)
}

// P6.2: while.
func TestWhile(t *testing.T) {
	hold(t, []row{
		{`val r = ref 3 val _ = while !r <> 0 do (print (Int.toString (!r)); r := !r - 1) val _ = print "."`, "321."},
		{`val _ = while false do print "a" val _ = print "b"`, "b"},
		{`val r = ref 0 val _ = (while true do (print "a"; r := !r + 1; if !r = 3 then raise Div else ())) handle Div => print "b"`, "aaab"},
		{`val r = ref 0 val s = ref 0 val _ = while !r < 3 do (r := !r + 1; s := 0; while !s < !r do (s := !s + 1; print "x"); print ",")`, "x,xx,xxx,"},
		{`val _ = while true do ()`, " .."},
	})
}

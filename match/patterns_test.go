package match_test

import (
	"strconv"
	"strings"
	"testing"
)

// apply is a program that tells what a function answers, an integer, of values in order; Match and Bind as ~1 and ~2.
func apply(function string, values ...string) string {
	s := function + " fun go x = print (Int.toString (f x handle Match => ~1 | Bind => ~2) ^ \" \") "
	for _, v := range values {
		s += "val _ = go (" + v + ") "
	}
	return s
}

// P9.1: each kind of pattern, alone and within others, with names at every depth, and with values that fit no row.
func TestPatterns(t *testing.T) {
	t.Parallel()
	const ahead = `datatype t = A | B of int | C of t * t | D of {x : int, y : t} datatype one = U datatype only = V of int * string datatype z = P | Q | R
exception E exception F of int exception G of t * int structure S = struct datatype s = X of int | Y | Z of s exception H of string end `
	hold(t, ahead, []row{
		// whatever there is: nothing is asked
		{apply("fun f x = x + 1", "1", "2"), "2 3 "},
		{apply("fun f _ = 7", "1"), "7 "},
		{apply("fun f () = 7", "()"), "7 "},
		{apply("fun f (x : int) = x", "5"), "5 "},
		{apply("fun f (x as (y as z)) = x + y * z", "5"), "30 "},
		{apply("fun f x = 1 | f y = 2 | f 3 = 3", "3"), "1 "},
		// integers, one by one and many of them
		{apply("fun f 0 = 5 | f 1 = 6", "0", "1", "2"), "5 6 ~1 "},
		{apply("fun f 0 = 5 | f n = n * 2", "0", "1", "~7"), "5 2 ~14 "},
		{apply("fun f ~3 = 5 | f 12345678901234567890123 = 6 | f ~12345678901234567890123 = 7 | f 3 = 8 | f 0 = 9 | f _ = 10", "~3", "3", "12345678901234567890123", "~12345678901234567890123", "0", "12345678901234567890124", "1"), "5 8 6 7 9 10 10 "},
		{apply("fun f 9 = 1 | f 3 = 2 | f 7 = 3 | f 1 = 4 | f 5 = 5 | f 3 = 6 | f 8 = 7", "0", "1", "2", "3", "4", "5", "6", "7", "8", "9", "10"), "~1 4 ~1 2 ~1 5 ~1 3 7 1 ~1 "},
		{apply("fun f (x as 3) = x | f x = x - 1", "3", "4"), "3 3 "},
		// texts
		{apply(`fun f "" = 1 | f "a" = 2 | f "ab" = 3`, `""`, `"a"`, `"ab"`, `"b"`), "1 2 3 ~1 "},
		{apply(`fun f "k" = 1 | f "b" = 2 | f "z" = 3 | f "a\000" = 4 | f "a" = 5 | f "k" = 6 | f s = size s`, `"a"`, `"b"`, `"k"`, `"z"`, `"a\000"`, `"long"`, `""`), "5 2 1 3 4 4 0 "},
		// characters, truths
		{apply(`fun f #"a" = 1 | f #"\255" = 2 | f #"\000" = 3`, `#"a"`, `#"\255"`, `#"\000"`, `#"b"`), "1 2 3 ~1 "},
		{apply("fun f true = 1 | f false = 2", "true", "false"), "1 2 "},
		{apply("fun f true = 1", "true", "false"), "1 ~1 "},
		{apply("fun f false = 1 | f _ = 2", "true", "false"), "2 1 "},
		// constructors
		{apply("fun f A = 1 | f (B n) = n | f (C _) = 3 | f (D _) = 4", "A", "B 8", "C (A, A)", "D {x = 1, y = A}"), "1 8 3 4 "},
		{apply("fun f (B n) = n | f (D {y = B m, x = x}) = m + x", "A", "B 8", "C (A, A)", "D {x = 1, y = A}", "D {x = 1, y = B 2}"), "~1 8 ~1 ~1 3 "},
		{apply("fun f (C (B 1, x as B 2)) = 1 | f (C (y as B a, B b)) = a * 10 + b | f (C (_, z as C (B a, _))) = a | f (C w) = 4 | f v = 5", "C (B 1, B 2)", "C (B 3, B 4)", "C (A, C (B 7, A))", "C (A, C (A, A))", "A"), "1 34 7 4 5 "},
		{apply("fun f U = 1", "U"), "1 "},
		{apply("fun f (V (1, s)) = size s | f (V (n, _)) = n", `V (1, "abc")`, `V (9, "")`), "3 9 "},
		{apply("fun f P = 1 | f R = 2", "P", "Q", "R"), "1 ~1 2 "},
		{apply("fun f R = 1 | f Q = 2 | f P = 3", "P", "Q", "R"), "3 2 1 "},
		{apply("fun f (S.X n) = n | f S.Y = 2 | f (S.Z (S.Z (S.X n))) = n | f (S.Z _) = 4", "S.X 1", "S.Y", "S.Z S.Y", "S.Z (S.Z (S.X 9))", "S.Z (S.Z S.Y)"), "1 2 4 9 4 "},
		// records
		{apply("fun f (1, x) = x | f (x, 1) = x | f (x, y) = x * y", "(1, 5)", "(5, 1)", "(2, 3)"), "5 5 6 "},
		{apply("fun f {b = 1, a = x} = x | f {a = a, b = b} = a - b", "{a = 5, b = 1}", "{b = 2, a = 3}"), "5 1 "},
		{apply("fun f (x, (y, (z, w as (u, 1)))) = x + y + z + u + #2 w | f (_, _) = 0", "(1, (2, (3, (4, 1))))", "(1, (2, (3, (4, 2))))"), "11 0 "},
		{apply("fun f ((), (), n) = n", "((), (), 3)"), "3 "},
		{apply("fun f (p as (a, b)) = #1 p * #2 p + a + b", "(3, 4)"), "19 "},
		// lists
		{apply("fun f [] = 0 | f [x] = x | f [x, y] = x + y | f (x :: y :: l) = x * y", "[]", "[4]", "[4, 5]", "[4, 5, 6]"), "0 4 9 20 "},
		{apply("fun f (1 :: _) = 1 | f [_, 2] = 2 | f (_ :: (l as (_ :: 3 :: m))) = (case (l, m) of (x :: _, []) => x | (_, y :: _) => y)", "[1, 2]", "[5, 2]", "[5, 6, 3]", "[5, 6, 3, 8]", "[5, 6]", "[]"), "1 2 6 8 ~1 ~1 "},
		// exceptions
		{apply("fun f E = 1 | f (F 1) = 2 | f (F n) = n | f (G (A, n)) = n | f (S.H s) = size s | f Div = 6 | f Match = 7", "E", "F 1", "F 5", "G (A, 8)", "G (B 1, 8)", `S.H "abc"`, "Div", "Match", "Bind"), "1 2 5 8 ~1 3 6 7 ~1 "},
		{apply("fun f (e as F n) = n | f (e as E) = 2 | f e = (raise e) handle G (_, n) => n | _ => 0", "F 3", "E", "G (A, 4)", "Chr"), "3 2 4 0 "},
		{apply("fun f (F 1) = 1 | f E = 2 | f (F 2) = 3 | f (F n) = 4", "F 1", "F 2", "F 3", "E", "Size"), "1 3 4 2 ~1 "},
		// several arguments, one by one
		{apply("fun g [] l = 1 | g l [] = 2 | g (x :: _) (y :: _) = x * y fun f (a, b) = g a b", "([], [])", "([1], [])", "([], [1])", "([2], [3])"), "1 2 1 6 "},
		{apply("fun g A 1 x = x | g (B n) _ 2 = n | g _ n m = n * m fun f (a, b, c) = g a b c", "(A, 1, 9)", "(B 8, 1, 2)", "(A, 3, 4)", "(B 1, 3, 5)"), "9 8 12 15 "},
		{apply("fun f x = (fn 1 => (fn 2 => 3 | n => n) | n => fn 5 => 50 | m => n * m) (x div 10) (x mod 10)", "12", "17", "25", "36"), "3 7 50 18 "},
		// val
		{apply("fun f l = let val [x, y] = l val (a, b) = (x, y) val 1 = a in b end", "[1, 2]", "[2, 2]", "[1]"), "2 ~2 ~2 "},
		{apply("fun f x = let val (p as {a = a, b = (c, 3)}) = x in a + c + #a p end", "{a = 1, b = (2, 3)}", "{a = 1, b = (2, 4)}"), "4 ~2 "},
		{apply("fun f x = let val B n = x val _ = n val () = () val (_ : int) = 1 in n end", "B 4", "A"), "4 ~2 "},
		// case within case, on the same and on parts
		{apply("fun f x = case x of (a, b) => (case a of [] => (case b of [] => 0 | y :: _ => y) | z :: _ => (case x of (_, [w]) => w + z | (_, l) => (case l of [] => z | _ => 99)))", "([], [])", "([], [3])", "([4], [5])", "([6], [])", "([6], [7, 8])"), "0 3 9 6 99 "},
		{apply("fun f x = case (case x of A => B 1 | B n => C (B n, A) | y => y) of B n => n | C (B n, _) => n * 10 | C (x, y) => 5", "A", "B 3", "C (A, A)", "D {x = 1, y = A}"), "1 30 5 ~1 "},
	})
}

// P9.1: what is done ahead of a case, in its rows and where none fits is done once, in its order; what a handle doesn't know is
// raised again.
func TestOrder(t *testing.T) {
	hold(t, "exception E of int exception F fun p s x = (print s; x) ", []row{
		{`val _ = case (p "a" 1, p "b" 2) of (2, _) => p "c" () | (_, 3) => p "d" () | (1, 2) => p "e" () | _ => p "f" ()`, "abe"},
		{`val _ = case p "a" (p "b" 1, p "c" 2) of x => p "d" x`, "bcad"},
		{`val _ = case p "a" 1 of _ => print "b"`, "ab"},
		{`val _ = case (p "a" 1, p "b" 2) of _ => print "c"`, "abc"},
		{`val _ = case {b = p "a" 1, a = p "b" 2} of {a = 1, b = _} => print "c" | {b = 1, a = _} => print "d" | _ => ()`, "abd"},
		{`val f = fn (1, x) => x | (2, y) => p "y" y val _ = f (2, 3) val _ = f (p "n" 3, p "o" 3) handle Match => p "m" 4 val _ = f (3, 3)`, "ynom" + noMatch},
		{`val _ = (raise E 3) handle E 1 => p "1" () | F => p "F" () | E 2 => p "2" ()`, "!uncaught exception E =1"},
		{`val _ = ((raise E 3) handle E 1 => p "1" () | F => p "F" ()) handle E n => print (Int.toString n)`, "3"},
		{`val _ = (p "a" (raise F)) handle E _ => p "b" () | x => (p "c" (); raise x)`, "c!uncaught exception F =1"},
		{`val _ = (case p "k" [1, 2] of [x] => print "l" | x :: y :: [] => (raise E (x + y)) handle E 4 => print "m" | E n => (print (Int.toString n); raise F)) handle F => print "n"`, "k3n"},
		{`val 1 = p "a" 2 handle Bind => 3`, "a" + noBind},
		{`val _ = (let val 1 = p "a" 2 in print "no" end) handle Bind => print "b"`, "ab"},
		{`fun f 0 = print "." | f n = (print "x"; f (n - 1)) val _ = f 5`, "xxxxx."},
		{`val r = ref [1, 2, 3] val _ = while (case !r of [] => false | _ => true) do (case !r of x :: l => (print (Int.toString x); r := l) | [] => ())`, "123"},
		{`val _ = case inputLine () of "one\n" => print (readFile "f") | "" => exit 4 | s => (writeFile ("g", s); raise E 1)`, "data"},
		{`fun f x = case x of (1, n) => exit n | (2, n) => n div 0 | (_, n) => n val _ = print (Int.toString (f (3, 4))) val _ = f (2, 1) handle Div => f (1, 5)`, "4 =5"},
	})
}

// many is a row of things, with something between them.
func many(n int, between string, one func(i int) string) string {
	var out []string
	for i := range n {
		out = append(out, one(i))
	}
	return strings.Join(out, between)
}

// P9.1: cases of many rows are not gone through one by one: with as many steps as there may be a program that asks one of them
// hundreds of times ends.
func TestManyRows(t *testing.T) {
	t.Parallel()
	const rows = 300
	cons := "datatype t = " + many(rows, " | ", func(i int) string { return "K" + strconv.Itoa(i) })
	loop := " fun go (0, x) = print (Int.toString (f x)) | go (n, x) = (f x; go (n - 1, x)) val _ = go (300, "
	number := func(i int) string { return strconv.Itoa((i * 7919) % rows) }
	for program, want := range map[string]string{
		cons + " fun f " + many(rows, " | f ", func(i int) string { return "K" + number(i) + " = " + number(i) }) + loop + "K299)":                                  "299",
		"fun f " + many(rows, " | f ", func(i int) string { return number(i) + " = " + number(i) }) + " | f _ = 5" + loop + "298)":                                  "298",
		"fun f " + many(rows, " | f ", func(i int) string { return number(i) + " = " + number(i) }) + " | f _ = 5" + loop + "300)":                                  "5",
		"fun f " + many(rows, " | f ", func(i int) string { return `"` + number(i) + `" = ` + number(i) }) + " | f _ = 5" + loop + `"297")`:                         "297",
		"fun f " + many(rows, " | f ", func(i int) string { return "(" + number(i) + `, "` + number(i) + `") = ` + number(i) }) + " | f _ = 5" + loop + `(9, "9"))`: "9",
		`fun f ` + many(250, " | f ", func(i int) string { return `#"\` + strconv.Itoa(1000 + i)[1:] + `" = ` + strconv.Itoa(i) }) + " | f _ = 5" + loop + `#"a")`:  "97",
	} {
		c := termOf(t, program)
		s, _ := switched(t, c)
		if got := told(alike(t, c, s, worlds()[1], 20, 300, 3000, 16000, 20000)); got != want {
			t.Errorf("%.100s: %s", program, got)
		}
	}
}

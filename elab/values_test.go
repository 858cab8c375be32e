package elab_test

import (
	"strings"
	"testing"
)

// P8.1: overloaded operators at each of their types, with their arguments at hand and as values.
func TestOperators(t *testing.T) {
	var rows []row
	for _, r := range []struct{ op, a, b, want string }{
		{"+", "7", "2", "int 9"}, {"-", "7", "2", "int 5"}, {"*", "7", "2", "int 14"}, {"div", "~7", "2", "int ~4"}, {"mod", "~7", "2", "int 1"},
		{"+", "7.5", "2.0", "real 9"}, {"-", "7.5", "2.0", "real 5"}, {"*", "7.5", "2.0", "real 15"}, {"/", "7.5", "2.0", "real 3"},
		{"<", "1", "2", "bool yes"}, {"<", "2", "2", "bool no"}, {"<=", "2", "2", "bool yes"}, {"<=", "3", "2", "bool no"}, {">", "3", "2", "bool yes"}, {">", "2", "2", "bool no"}, {">=", "2", "2", "bool yes"}, {">=", "1", "2", "bool no"},
		{"<", "1.0", "2.0", "bool yes"}, {"<", "2.0", "2.0", "bool no"}, {"<=", "2.0", "2.0", "bool yes"}, {"<=", "3.0", "2.0", "bool no"}, {">", "3.0", "2.0", "bool yes"}, {">", "2.0", "2.0", "bool no"}, {">=", "2.0", "2.0", "bool yes"}, {">=", "1.0", "2.0", "bool no"},
		{">=", "(0.0 / 0.0)", "1.0", "bool no"}, {"<=", "(0.0 / 0.0)", "1.0", "bool no"},
		{"<", `#"a"`, `#"b"`, "bool yes"}, {"<", `#"b"`, `#"b"`, "bool no"}, {"<=", `#"b"`, `#"b"`, "bool yes"}, {"<=", `#"c"`, `#"b"`, "bool no"}, {">", `#"c"`, `#"b"`, "bool yes"}, {">", `#"b"`, `#"b"`, "bool no"}, {">=", `#"b"`, `#"b"`, "bool yes"}, {">=", `#"a"`, `#"b"`, "bool no"},
		{"<", `"a"`, `"ab"`, "bool yes"}, {"<", `"b"`, `"ab"`, "bool no"}, {"<=", `"b"`, `"b"`, "bool yes"}, {"<=", `"c"`, `"b"`, "bool no"}, {">", `"c"`, `"b"`, "bool yes"}, {">", `"b"`, `"b"`, "bool no"}, {">=", `"b"`, `"b"`, "bool yes"}, {">=", `"a"`, `"b"`, "bool no"},
		{"=", "1", "1", "bool yes"}, {"=", "1", "2", "bool no"}, {"<>", "1", "1", "bool no"}, {"<>", "1", "2", "bool yes"},
		{"^", `"a"`, `"b"`, "text ab"}, {"::", `"a"`, `["b"]`, "list ab"},
	} {
		for _, e := range []string{
			r.a + " " + r.op + " " + r.b, "op " + r.op + " (" + r.a + ", " + r.b + ")", "op " + r.op + " {2 = " + r.b + ", 1 = " + r.a + "}", "(fn f => f (" + r.a + ", " + r.b + ")) (op " + r.op + ")",
			"let val p = (" + r.a + ", " + r.b + ") in op " + r.op + " p end", "(fn p => op " + r.op + " (#1 p, #2 p)) (" + r.a + ", " + r.b + ")", "let val f = op " + r.op + " val x = " + r.a + " val y = " + r.b + " in f (x, y) end",
		} {
			rows = append(rows, operated(e, r.want))
		}
	}
	for _, r := range [][2]string{{"~ 5", "int ~5"}, {"~ (~ 5)", "int 5"}, {"(fn f => f 5) ~", "int ~5"}, {"~ 2.5", "real ~3"}, {"(fn f => f 2.5) ~", "real ~3"}} {
		rows = append(rows, operated(r[0], r[1]))
	}
	hold(t, rows)
}

// operated is a program that prints what an expression is, which is told behind its kind.
func operated(e, want string) row {
	kind, told, _ := strings.Cut(want, " ")
	switch kind {
	case "int":
		e = "Int.toString (" + e + ")"
	case "real":
		e = "Int.toString (Real.floor (" + e + "))"
	case "bool":
		e = "if " + e + " then \"yes\" else \"no\""
	case "list":
		e = "case " + e + " of [a, b] => a ^ b | _ => \"no\""
	}
	return row{"val _ = print (" + e + ")", told}
}

// P8.1: equality at every type that has it.
func TestEquality(t *testing.T) {
	const ahead = `datatype t = A | B of int | C of t * t datatype 'a u = U of 'a list | V val r = ref 1 val b = Bytes.new 2
		structure S = struct datatype t = A | B of {x : int, y : string} type v = int * bool end fun same (x, y) = x = y fun other (x, y) = x <> y`
	var rows []row
	for _, e := range [][3]string{
		{"3", "3", "4"}, {"123456789012345678901234567890", "123456789012345678901234567889 + 1", "~123456789012345678901234567890"}, {"true", "1 = 1", "false"},
		{`#"a"`, "chr 97", `#"b"`}, {`"ab"`, `"a" ^ "b"`, `"abc"`}, {"()", "{}", ""}, {"(1, 2)", "{2 = 2, 1 = 1}", "(2, 1)"}, {"{a = 1, b = true}", "{b = true, a = 1}", "{a = 1, b = false}"},
		{"[1, 2]", "1 :: 2 :: nil", "[2, 1]"}, {"[1, 2]", "[1, 2]", "[1]"}, {"[[1], []]", "[[1], nil]", "[[], [1]]"}, {"A", "A", "B 1"}, {"B 1", "B 1", "B 2"}, {"B 1", "B (2 - 1)", "C (A, A)"}, {"C (A, C (B 1, A))", "C (A, C (B 1, A))", "C (A, C (B 2, A))"},
		{"U [1, 2]", "U (1 :: [2])", "V"}, {"U [U [1], V]", "U [U [1], V]", "U [V, U [1]]"}, {"S.A", "S.A", `S.B {x = 1, y = ""}`}, {`S.B {x = 1, y = "y"}`, `S.B {y = "y", x = 1}`, `S.B {x = 1, y = "z"}`}, {"(1, true) : S.v", "(1, true)", "(1, false)"},
		{"r", "r", "ref 1"}, {"[r]", "[r]", "[ref 1]"}, {"b", "b", "Bytes.new 2"}, {"(b, r)", "(b, r)", "(Bytes.new 2, r)"}, {"Vector.fromList [1, 2]", "Vector.fromList [1, 2]", "Vector.fromList [1]"}, {"Vector.fromList [[1]]", "Vector.fromList [[1]]", "Vector.fromList [[2]]"},
	} {
		for i, want := range []string{"yes", "no"} {
			if i == 1 && e[2] == "" {
				continue
			}
			opposite := "no"
			if i == 1 {
				opposite = "yes"
			}
			args := "(" + e[0] + ", " + e[1+i] + ")"
			for _, f := range []string{"op =", "same", "(fn f => f) (op =)"} {
				rows = append(rows, row{"bool: " + f + " " + args, want})
			}
			for _, f := range []string{"op <>", "other", "(fn f => f) (op <>)"} {
				rows = append(rows, row{"bool: " + f + " " + args, opposite})
			}
			rows = append(rows, row{"bool: (" + e[0] + ") = (" + e[1+i] + ")", want}, row{"bool: (" + e[0] + ") <> (" + e[1+i] + ")", opposite})
		}
	}
	hold(t, shown(ahead, rows))
}

// P8.1: primitives, constructors, exceptions and selectors as values, and as what is applied.
func TestFunctionsAsValues(t *testing.T) {
	var rows []row
	for _, r := range []struct{ f, arg, show, want string }{
		{"Int.toString", "~12", "text", "~12"}, {"size", `"abc"`, "int", "3"}, {"ord", `#"a"`, "int", "97"}, {"chr", "98", "text: str", "b"}, {"str", `#"c"`, "text", "c"},
		{"Real.fromInt", "3", "int: Real.floor", "3"}, {"Real.floor", "~2.5", "int", "~3"}, {"Real.bits", "1.0", "int", "4607182418800017408"},
		{"String.sub", `("abc", 1)`, "text: str", "b"}, {"String.substring", `("abcdef", 2, 3)`, "text", "cde"},
		{"Vector.fromList", "[1, 2, 3]", "int: Vector.length", "3"}, {"Vector.length", "(Vector.fromList [1])", "int", "1"}, {"Vector.sub", "(Vector.fromList [4, 5], 1)", "int", "5"},
		{"Bytes.new", "7", "int: Bytes.length", "7"}, {"Bytes.length", "(Bytes.new 8)", "int", "8"}, {"Bytes.get", "(Bytes.new 8, 3)", "int", "0"},
		{"ref", "5", "int: !", "5"}, {"!", "(ref 6)", "int", "6"}, {"readFile", `"f"`, "text", "data"}, {"inputLine", "()", "text", "one\n"},
		{"#2", "(1, 2, 3)", "int", "2"}, {"#b", "{b = 4, a = 5}", "int", "4"}, {"#a", "{b = 4, a = 5}", "int", "5"},
		{"B", "7", "int: fn B n => n | _ => 0", "7"}, {"C", "(1, A)", "int: fn C (n, _) => n | _ => 0", "1"}, {"S.D", "3", "int: fn S.D n => n | S.F => 0", "3"}, {"E", "8", "int: fn E n => n | _ => 0", "8"}, {"G", "(8, 9)", "int: fn G (a, b) => a - b | _ => 0", "~1"},
		{"op ::", "(1, [2])", "int: fn [a, b] => a - b | _ => 0", "~1"}, {"op +", "(1, 2)", "int", "3"}, {"op ^", `("a", "b")`, "text", "ab"},
	} {
		kind, by, _ := strings.Cut(r.show, ": ")
		for _, e := range []string{r.f + " " + r.arg, "(fn f => f " + r.arg + ") (" + r.f + ")", "let val f = " + r.f + " in f " + r.arg + " end", "let val x = " + r.arg + " in " + r.f + " x end", "(#1 (" + r.f + ", 1)) " + r.arg, "(if true then " + r.f + " else " + r.f + ") " + r.arg,
			"hd (map (" + r.f + ") [" + r.arg + "])"} {
			if by != "" {
				e = "(" + by + ") (" + e + ")"
			}
			rows = append(rows, row{kind + ": " + e, strings.ReplaceAll(r.want, "\\n", "\n")})
		}
	}
	hold(t, shown(`fun map f [] = [] | map f (x :: l) = f x :: map f l fun hd (x :: _) = x | hd [] = raise Subscript datatype t = A | B of int | C of int * t structure S = struct datatype u = D of int | F end exception E of int exception G of int * int`, rows))
	hold(t, []row{
		{`val _ = (fn f => f "a") print val f = print val _ = f "b" val g = (op :=) val r = ref "1" val _ = g (r, "c") val _ = print (!r)`, "abc"},
		{`val w = writeFile val p = ("g", "x") val _ = w p val _ = writeFile p val _ = print (readFile "g")`, "[g: x][g: x]x"},
		{`val b = Bytes.new 3 val put = Bytes.put val _ = put (b, 1, 257) val t = (b, 2, 9) val _ = Bytes.put t val _ = print (Int.toString (Bytes.get (b, 1) + Bytes.get (b, 2)))`, "10"},
		{`val e = exit val _ = print "a" val _ = e 3`, "a =3"},
		{`fun app f [] = () | app f (x :: l) = (f x; app f l) val _ = app print ["a", "b"] val _ = app (fn (f, x) => print (f x)) [(Int.toString, 1), (fn n => "n", 2)]`, "ab1n"},
		{`exception E of int fun each f l = case l of [] => [] | x :: l => f x :: each f l val _ = print (case each E [1, 2] of [E a, E b] => Int.toString (a * 10 + b) | _ => "no")`, "12"},
		{`val l = [Div, Match, Chr] fun name Div = "d" | name Match = "m" | name Chr = "c" | name _ = "?" fun all [] = "" | all (e :: l) = name e ^ all l val _ = print (all l)`, "dmc"},
		{`val f = fn (x : int * string) => (#1 x, #2 x) val (n, s) = f (1, "s") val _ = print (s ^ Int.toString n)`, "s1"},
	})
}

package source_test

import (
	"strings"
	"testing"

	"smithy/api"
)

// P6.3: integers.
func TestIntegers(t *testing.T) {
	const great = "100000000000000000000"
	holdShown(t, "", []row{
		{"int: 2 + 3", "5"}, {"int: 2 - 3", "~1"}, {"int: ~2 * 3", "~6"}, {"int: ~ 5", "~5"}, {"int: ~ (~5)", "5"}, {"int: ~ 0", "0"},
		{"int: " + great + " * " + great, "1" + strings.Repeat("0", 40)},
		{"int: " + great + " - " + great + " + 1", "1"},
		{"int: 7 div 2", "3"}, {"int: ~7 div 2", "~4"}, {"int: 7 div ~2", "~4"}, {"int: ~7 div ~2", "3"},
		{"int: 7 mod 2", "1"}, {"int: ~7 mod 2", "1"}, {"int: 7 mod ~2", "~1"}, {"int: ~7 mod ~2", "~1"},
		{"int: " + great + " div ~3", "~33333333333333333334"}, {"int: " + great + " mod ~3", "~2"},
		{"int: (1 div 0) handle Div => 9", "9"}, {"int: (1 mod 0) handle Div => 9", "9"}, {"int: (0 div 0) handle Div => 9", "9"},
		{"int: 0 div 5", "0"},
		{"bool: 1 < 2", "yes"}, {"bool: 2 < 2", "no"}, {"bool: 2 <= 2", "yes"}, {"bool: 3 <= 2", "no"},
		{"bool: 2 > 1", "yes"}, {"bool: 2 > 2", "no"}, {"bool: 2 >= 2", "yes"}, {"bool: 1 >= 2", "no"},
		{"bool: ~" + great + " < ~1", "yes"}, {"bool: " + great + " > 1", "yes"}, {"bool: ~" + great + " >= 1", "no"},
		{"text: Int.toString ~12", "~12"}, {"text: Int.toString 0", "0"}, {"text: Int.toString " + great, great},
	})
	// squares of 2: 2^32768 has more than MaxLimbs limbs, 2^32767 has not
	const double = "fun up 0 = 2 | up n = let val h = up (n - 1) in h * h end val half = up 14 "
	holdShown(t, double, []row{
		{"int: (half * half; 1) handle Size => 2", "2"},
		{"int: (half * (half div 2); 1) handle Size => 2", "1"},
		{"int: let val m = half * (half div 2) in (m + (m - 1); 1) handle Size => 2 end", "1"},
		{"int: let val m = half * (half div 2) in (m + m; 1) handle Size => 2 end", "2"},
		{"int: let val m = half * (half div 2) in (~m - m; 1) handle Size => 2 end", "2"},
		{"int: let val m = half * (half div 2) in (~m - (m - 1); 1) handle Size => 2 end", "1"},
		{"int: let val m = half * (half div 2) in size (Int.toString m) end", "9864"},
	})
}

// P6.3: reals: infinities, what is no number, noughts with signs, comparisons both ways round.
func TestReals(t *testing.T) {
	const ahead = "val inf = 1.0 / 0.0 val nan = 0.0 / 0.0 fun b x = Real.bits x "
	const no = "9221120237041090560"
	holdShown(t, ahead, []row{
		{"int: b (0.1 + 0.2)", "4599075939470750516"}, {"int: b (1.0 - 0.9)", "4591870180066957720"}, {"int: b (1.5 * 2.0)", "4613937818241073152"}, {"int: b (1.0 / 3.0)", "4599676419421066581"},
		{"int: b 0.0", "0"}, {"int: b ~0.0", "9223372036854775808"}, {"int: b (~ 0.0)", "9223372036854775808"}, {"int: b (0.0 - 0.0)", "0"}, {"int: b (~1.0 * 0.0)", "9223372036854775808"},
		{"int: b inf", "9218868437227405312"}, {"int: b (~ inf)", "18442240474082181120"}, {"int: b (1.0 / ~0.0)", "18442240474082181120"}, {"int: b (1e308 * 10.0)", "9218868437227405312"},
		{"int: b nan", no}, {"int: b (~ nan)", no}, {"int: b (inf - inf)", no}, {"int: b (inf * 0.0)", no}, {"int: b (nan + 1.0)", no}, {"int: b (nan - nan)", no}, {"int: b (inf / inf)", no},
		{"int: b 5e~324", "1"}, {"int: b (5e~324 / 2.0)", "0"},
		{"bool: 1.0 < 2.0", "yes"}, {"bool: 2.0 < 2.0", "no"}, {"bool: 2.0 <= 2.0", "yes"}, {"bool: 2.0 > 1.0", "yes"}, {"bool: 2.0 >= 2.0", "yes"}, {"bool: 1.0 >= 2.0", "no"}, {"bool: 1.0 > 2.0", "no"}, {"bool: 2.0 <= 1.0", "no"},
		{"bool: ~0.0 < 0.0", "no"}, {"bool: ~0.0 <= 0.0", "yes"}, {"bool: 0.0 <= ~0.0", "yes"}, {"bool: ~0.0 >= 0.0", "yes"}, {"bool: 0.0 > ~0.0", "no"},
		{"bool: ~ inf < inf", "yes"}, {"bool: inf <= inf", "yes"}, {"bool: inf > 1e308", "yes"}, {"bool: inf < inf", "no"},
		{"bool: nan < 1.0", "no"}, {"bool: nan <= 1.0", "no"}, {"bool: nan > 1.0", "no"}, {"bool: nan >= 1.0", "no"},
		{"bool: 1.0 < nan", "no"}, {"bool: 1.0 <= nan", "no"}, {"bool: 1.0 > nan", "no"}, {"bool: 1.0 >= nan", "no"},
		{"bool: nan < nan", "no"}, {"bool: nan <= nan", "no"}, {"bool: nan > nan", "no"}, {"bool: nan >= nan", "no"}, {"bool: nan < inf", "no"}, {"bool: ~ inf < nan", "no"},
		{"int: Real.floor 2.5", "2"}, {"int: Real.floor ~2.5", "~3"}, {"int: Real.floor 2.0", "2"}, {"int: Real.floor ~0.0", "0"}, {"int: Real.floor ~1e~300", "~1"}, {"int: Real.floor 0.99", "0"},
		{"int: Real.floor 1e22", "10000000000000000000000"}, {"int: Real.floor ~1e22", "~10000000000000000000000"}, {"int: Real.floor 9007199254740993.0", "9007199254740992"},
		{"int: Real.floor inf handle Domain => 7", "7"}, {"int: Real.floor (~ inf) handle Domain => 7", "7"}, {"int: Real.floor nan handle Domain => 7", "7"},
		{"int: b (Real.fromInt 1)", "4607182418800017408"}, {"int: b (Real.fromInt 0)", "0"}, {"int: b (Real.fromInt ~0)", "0"},
		{"int: Real.floor (Real.fromInt 9007199254740993)", "9007199254740992"}, {"int: Real.floor (Real.fromInt 9007199254740995)", "9007199254740996"}, {"int: Real.floor (Real.fromInt ~9007199254740995)", "~9007199254740996"},
		{"int: Real.floor (Real.fromInt 36893488147419107328)", "36893488147419103232"}, {"int: Real.floor (Real.fromInt 36893488147419107329)", "36893488147419111424"},
		{"bool: Real.fromInt 1" + strings.Repeat("0", 309) + " >= inf", "yes"}, {"bool: Real.fromInt ~1" + strings.Repeat("0", 309) + " <= ~ inf", "yes"}, {"bool: Real.fromInt 1" + strings.Repeat("0", 308) + " < inf", "yes"},
	})
}

// P6.3: texts and chars.
func TestTexts(t *testing.T) {
	holdShown(t, `fun upto 0 s = s | upto n s = upto (n - 1) (s ^ s) val most = upto 16 "x" `, []row{
		{`text: "ab" ^ "" ^ "c"`, "abc"}, {`int: size ""`, "0"}, {`int: size "a\000\255"`, "3"}, {"int: size most", "65536"},
		{`int: size (most ^ "")`, "65536"}, {`int: size (most ^ "y") handle Size => 7`, "7"}, {`int: size ("y" ^ most) handle Size => 7`, "7"},
		{`text: str (String.sub ("abc", 0))`, "a"}, {`text: str (String.sub ("abc", 2))`, "c"},
		{`text: str (String.sub ("abc", 3)) handle Subscript => "no"`, "no"}, {`text: str (String.sub ("abc", ~1)) handle Subscript => "no"`, "no"}, {`text: str (String.sub ("", 0)) handle Subscript => "no"`, "no"},
		{`text: str (String.sub ("abc", 18446744073709551616)) handle Subscript => "no"`, "no"},
		{`text: String.substring ("abcd", 1, 2)`, "bc"}, {`text: String.substring ("abcd", 0, 4)`, "abcd"}, {`text: String.substring ("abcd", 4, 0)`, ""}, {`text: String.substring ("", 0, 0)`, ""},
		{`text: String.substring ("abcd", 3, 2) handle Subscript => "no"`, "no"}, {`text: String.substring ("abcd", 5, 0) handle Subscript => "no"`, "no"}, {`text: String.substring ("abcd", ~1, 2) handle Subscript => "no"`, "no"},
		{`text: String.substring ("abcd", 1, ~1) handle Subscript => "no"`, "no"}, {`text: String.substring ("abcd", 5, ~1) handle Subscript => "no"`, "no"}, {`text: String.substring ("abcd", 1, 18446744073709551617) handle Subscript => "no"`, "no"},
		{`bool: "a" < "b"`, "yes"}, {`bool: "a" < "a"`, "no"}, {`bool: "a" < "ab"`, "yes"}, {`bool: "b" < "ab"`, "no"}, {`bool: "\255" < "a"`, "no"}, {`bool: "" < "a"`, "yes"},
		{`bool: "a" <= "a"`, "yes"}, {`bool: "b" <= "a"`, "no"}, {`bool: "b" > "a"`, "yes"}, {`bool: "a" > "a"`, "no"}, {`bool: "a" >= "a"`, "yes"}, {`bool: "a" >= "b"`, "no"}, {`bool: "Z" < "a"`, "yes"},
		{`bool: #"a" < #"b"`, "yes"}, {`bool: #"b" < #"b"`, "no"}, {`bool: #"b" <= #"b"`, "yes"}, {`bool: #"c" <= #"b"`, "no"}, {`bool: #"b" > #"a"`, "yes"}, {`bool: #"a" > #"a"`, "no"}, {`bool: #"a" >= #"a"`, "yes"}, {`bool: #"a" >= #"b"`, "no"}, {`bool: #"\255" > #"a"`, "yes"},
		{`int: ord #"a"`, "97"}, {`int: ord #"\000"`, "0"}, {`int: ord #"\255"`, "255"},
		{`text: str (chr 65)`, "A"}, {`int: ord (chr 0)`, "0"}, {`int: ord (chr 255)`, "255"}, {`int: ord (chr 256) handle Chr => 7`, "7"}, {`int: ord (chr ~1) handle Chr => 7`, "7"}, {`int: ord (chr 18446744073709551616) handle Chr => 7`, "7"},
		{`text: str #"\255"`, "\xff"},
	})
}

// P6.3: cells, vectors, bytes.
func TestThings(t *testing.T) {
	holdShown(t, "", []row{
		{"int: !(ref 3)", "3"},
		{"int: let val r = ref 1 val s = r in (s := 2; !r) end", "2"},
		{"int: let val r = ref 1 val s = ref 1 in (s := 2; !r) end", "1"},
		{"bool: (ref 1 := 2) = ()", "yes"},
		{"int: let val r = ref (fn n => n) in (r := (fn n => if n = 0 then 1 else n * !r (n - 1)); !r 5) end", "120"},
		{"int: Vector.length (Vector.fromList [])", "0"},
		{"int: Vector.length (Vector.fromList [1, 2, 3])", "3"},
		{"int: Vector.sub (Vector.fromList [1, 2, 3], 2)", "3"},
		{"int: Vector.sub (Vector.fromList [1, 2, 3], 3) handle Subscript => 9", "9"},
		{"int: Vector.sub (Vector.fromList [1, 2, 3], ~1) handle Subscript => 9", "9"},
		{"int: Vector.sub (Vector.fromList [], 0) handle Subscript => 9", "9"},
		{"int: Vector.sub (Vector.fromList [1], 18446744073709551616) handle Subscript => 9", "9"},
		{"int: Bytes.length (Bytes.new 0)", "0"},
		{"int: Bytes.length (Bytes.new 65536)", "65536"},
		{"int: Bytes.length (Bytes.new 65537) handle Size => 9", "9"},
		{"int: Bytes.length (Bytes.new ~1) handle Size => 9", "9"},
		{"int: Bytes.get (Bytes.new 3, 2)", "0"},
		{"int: Bytes.get (Bytes.new 3, 3) handle Subscript => 9", "9"},
		{"int: Bytes.get (Bytes.new 3, ~1) handle Subscript => 9", "9"},
		{"int: let val b = Bytes.new 3 val c = b in (Bytes.put (b, 1, 7); Bytes.get (c, 1) * 100 + Bytes.get (c, 0)) end", "700"},
		{"int: let val b = Bytes.new 3 in (Bytes.put (b, 1, 258); Bytes.get (b, 1)) end", "2"},
		{"int: let val b = Bytes.new 3 in (Bytes.put (b, 1, ~1); Bytes.get (b, 1)) end", "255"},
		{"int: let val b = Bytes.new 3 in (Bytes.put (b, 3, 1); 1) handle Subscript => 9 end", "9"},
		{"int: let val b = Bytes.new 3 in (Bytes.put (b, ~1, 1); 1) handle Subscript => 9 end", "9"},
		{"bool: Bytes.put (Bytes.new 1, 0, 0) = ()", "yes"},
	})
}

// P6.3: equality of each kind of value.
func TestEquality(t *testing.T) {
	const ahead = "datatype t = A | B | C of int | D of t * t val r = ref 1 val b = Bytes.new 1 "
	for _, e := range []string{
		"1 = 1", "100000000000000000000 = 100000000000000000000", "true = true", `#"a" = #"a"`, `"ab" = "a" ^ "b"`, `"" = ""`, "() = ()", "(1, true) = (1, true)", "{a = 1, b = 2} = {b = 2, a = 1}",
		"[1, 2] = [1, 2]", "nil = ([] : int list)", "[[1], []] = [[1], []]", "A = A", "C 1 = C 1", "D (A, C 1) = D (A, C 1)", "r = r", "b = b", "Vector.fromList [1, 2] = Vector.fromList [1, 2]", "Vector.fromList [r] = Vector.fromList [r]",
		"let val f = op = in f (1, 1) end", "(r, b) = (r, b)",
	} {
		holdShown(t, ahead, []row{{"bool: " + e, "yes"}})
	}
	for _, e := range []string{
		"1 <> 2", "1 <> ~1", "18446744073709551616 <> 0", "true <> false", `#"a" <> #"b"`, `"ab" <> "abc"`, `"a" <> "b"`, "(1, true) <> (1, false)", "(1, true) <> (2, true)", "[1, 2] <> [1]", "[1] <> [1, 2]", "[1] <> [2]", "[] <> [1]", "[1] <> []",
		"A <> B", "A <> C 0", "C 0 <> A", "C 1 <> C 2", "C 1 <> D (A, A)", "D (A, A) <> D (A, B)", "r <> ref 1", "b <> Bytes.new 1", "Vector.fromList [1, 2] <> Vector.fromList [1]", "Vector.fromList [1, 2] <> Vector.fromList [1, 3]", "Bytes.new 0 <> Bytes.new 0", "ref () <> ref ()",
	} {
		holdShown(t, ahead, []row{{"bool: " + e, "yes"}, {"bool: " + strings.Replace(e, "<>", "=", 1), "no"}})
	}
}

// P6.3: what meets the world.
func TestOutside(t *testing.T) {
	long := strings.Repeat("n", 255)
	hold(t, []row{
		{`val _ = if print "a" = () then print "b" else print "c"`, "ab"},
		{`val _ = print "" val _ = print "\000"`, "\x00"},
		{`val _ = print (inputLine ()) val _ = print (inputLine ()) val _ = print (inputLine ()) val _ = print "."`, "one\ntwo."},
		{`val _ = print (readFile "f")`, "data"},
		{`val _ = print (readFile "g") handle Io => print "no"`, "no"},
		{`val _ = print (readFile "") handle Io => print "no"`, "no"},
		{`val _ = print (readFile "a\000") handle Io => print "no"`, "no"},
		{`val _ = print (Int.toString (size (readFile "long")))`, "65536"},
		{`val _ = print (readFile "longer") handle Io => print "no"`, "no"},
		{`val _ = writeFile ("g", "new") val _ = print (readFile "g")`, "[g: new]new"},
		{`val _ = writeFile ("f", "new") val _ = print (readFile "f") val _ = writeFile ("f", "") val _ = print (readFile "f")`, "[f: new]new[f: ]"},
		{`val _ = writeFile ("longer", "short") val _ = print (readFile "longer")`, "[longer: short]short"},
		{`val _ = writeFile ("", "x") handle Io => print "no"`, "no"},
		{`val _ = writeFile ("a\000b", "x") handle Io => print "no"`, "no"},
		{`val _ = writeFile ("` + long + `", "x")`, "[" + long + ": x]"},
		{`val _ = writeFile ("` + long + `n", "x") handle Io => print "no"`, "no"},
		{`val _ = if writeFile ("g", "x") = () then print "unit" else ()`, "[g: x]unit"},
		{`val w = writeFile val f = print val _ = w ("g", "x") val _ = f "y"`, "[g: x]y"},
	})
	line := strings.Repeat("x", api.MaxString)
	l := typed(t, `val _ = print (Int.toString (size (inputLine ()))) val _ = print ((inputLine ()) handle Size => "too long") val _ = print (inputLine ())`)
	if got := told(outcome(t, l, api.World{Stdin: line[1:] + "\n" + line + "\nnext"}, api.MaxFuel)); got != "65536too longnext" {
		t.Errorf("%.100s", got)
	}
}

// P6.3: the basis's values are functions as others are.
func TestFirstClass(t *testing.T) {
	holdShown(t, "fun on f x y = f (x, y) fun map f [] = [] | map f (x :: l) = f x :: map f l fun cat [] = \"\" | cat (x :: l) = x ^ cat l ", []row{
		{"int: on (op +) 1 2", "3"}, {"int: on (op div) 7 2", "3"}, {"text: on (op ^) \"a\" \"b\"", "ab"}, {"bool: on (op =) 1 1", "yes"}, {"bool: on (op <>) 1 1", "no"},
		{"bool: on (op >) 1 2", "no"}, {"bool: on (op >=) 2.0 1.0", "yes"}, {"text: cat (map Int.toString [1, 2, 3])", "123"}, {"text: cat (map str (map chr [72, 105]))", "Hi"},
		{"int: case on (op ::) 1 [2] of x :: _ => x | [] => 0", "1"}, {"int: on Vector.sub (Vector.fromList [4, 5]) 1", "5"},
		{"int: !(on (fn (r, x) => (r := x; r)) (ref 1) 2)", "2"}, {"text: cat (map (fn f => f 1) [Int.toString, fn n => \"-\"])", "1-"}, {"int: let val p = (\"abc\", 1, 2) in size (String.substring p) end", "2"},
		{"int: let val minus = ~ in minus 3 + 5 end", "2"}, {"int: (fn f => fn g => f (g 3)) ord chr", "3"}, {"int: (fn f => fn g => f (g 5)) ! ref", "5"},
	})
}

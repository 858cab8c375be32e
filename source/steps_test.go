package source_test

import (
	"reflect"
	"strings"
	"testing"

	"smithy/api"
)

// steps is the least number of steps with which a program ends; with one less it is running, with more it ends the same.
func steps(t *testing.T, program string) int {
	t.Helper()
	l := typed(t, program)
	low, high := 0, api.MaxFuel // it has not ended with fewer than low, it has with high
	if outcome(t, l, theWorld(), high).Status != api.Exited {
		t.Fatalf("%.200s: it doesn't end", program)
	}
	for low < high {
		middle := (low + high) / 2
		if outcome(t, l, theWorld(), middle).Status == api.Exited {
			high = middle
		} else {
			low = middle + 1
		}
	}
	want := outcome(t, l, theWorld(), api.MaxFuel)
	for _, fuel := range []int{low, low + 1, low + 64} {
		if got := outcome(t, l, theWorld(), fuel); !reflect.DeepEqual(got, want) {
			t.Errorf("%.200s: %d steps: %+v", program, fuel, got)
		}
	}
	for fuel := max(0, low-3); fuel < low; fuel++ {
		if got := outcome(t, l, theWorld(), fuel); got.Status != api.Running || got.Code != 0 || !isBeginning(got.Trace, want.Trace) {
			t.Errorf("%.200s: %d steps: %+v", program, fuel, got)
		}
	}
	return low
}

type count struct {
	program string
	want    int
}

func holdSteps(t *testing.T, rows []count) {
	t.Helper()
	for _, r := range rows {
		if got := steps(t, r.program); got != r.want {
			t.Errorf("%.300s: %d steps, not %d", r.program, got, r.want)
		}
	}
}

// A step is each expression that is looked at, each time again; declarations and patterns take none.
func TestSteps(t *testing.T) {
	holdSteps(t, []count{
		{"", 0},
		{"fun f x = f x and g 1 = 2 datatype t = A | B of int exception E of int type u = int infix ++ nonfix ++ signature T = sig end structure S : T = struct fun f x = x end structure U = S", 0},
		{"val a = 1", 1},
		{"val a = 1.5", 1},
		{`val a = #"a"`, 1},
		{`val a = "a"`, 1},
		{"val a = nil", 1},
		{"val a = op +", 1},
		{"val a = Div", 1},
		{"val a = Int.toString", 1},
		{"val a = ()", 1},
		{"val a = (1, 2)", 3},
		{"val a = {b = 1, a = (2, 3), 7 = 4}", 6},
		{"val a = []", 1},
		{"val a = [1, 2, 3]", 4},
		{"val a : int -> int = fn x => x", 1},
		{"val a = #1 : int * int -> int", 2},
		{"val a = #1 (1, 2)", 5},
		{"val a = (fn x => x) 1", 4},
		{"val a = (fn 0 => 1 | 1 => 2 | x => (x; x; 4)) 5", 3 + 4},
		{"val a = (fn (x, y) => 1) (2, 3)", 6},
		{"val a = 1 + 2", 5},
		{"val a = 1 + 2 + 3", 9},
		{"val a = ~ 1", 3},
		{"val a = 1 :: nil", 5},
		{"datatype t = A of int val a = A 1", 3},
		{"exception E of int val a = E 1", 3},
		{"val a = case 1 of 1 => 2", 3},
		{"val a = case (1, 2) of (0, _) => 3 | (_, 0) => 4 | (x, _) => x", 5},
		{"val a = if true then 1 else (2; 3)", 3},
		{"val a = if false then 1 else (2; 3)", 5},
		{"val a = true andalso false", 3},
		{"val a = false andalso true", 2},
		{"val a = true orelse false", 2},
		{"val a = false orelse true", 3},
		{"val a = while false do 1", 2},
		{"val r = ref 2 val _ = while !r > 0 do r := !r - 1", 3 + 1 + 3*7 + 2*11},
		{"val a = let in 1 end", 2},
		{"val a = let val b = 1 fun f x = x in f b end", 6},
		{"val a = let in 1; 2 end", 4},
		{"val a = (1; 2; 3)", 4},
		{"val a = 1 handle Div => 2", 2},
		{"val a = (raise Div) handle Div => 1", 4},
		{"val a = (raise Div) handle Chr => 1 | _ => (2; 3)", 6},
		{"val a = ((raise Div) handle Chr => 1) handle Div => 2", 5},
		{"val a = 1 : int", 2},
		{"val a = (1 : int) : int", 3},
		{"fun f x = x val a = f 1", 4},
		{"fun f x : int = x val a = f 1", 5},
		{"fun f x y = x val a = f 1", 3},
		{"fun f x y = x val a = f 1 2", 6},
		{"fun f x y = x val a = f 1 val b = a 2 val c = a 3", 3 + 4 + 4},
		{"fun f 0 _ = 1 | f _ 0 = 2 | f x y = 3 val a = f 4 5", 6},
		{"fun f 0 = 0 | f n = f (n - 1) val a = f 2", 3 + 2*(3+4) + 1},
		{"structure S = struct val x = 1 structure T = struct val y = (x, x) end end val z = S.T.y", 5},
		{"val f = fn _ => raise Div val a = f 1 handle Div => 2", 1 + 1 + 3 + 2 + 1},
	})
}

// What ends a run takes the steps up to it alone.
func TestStepsOfEnds(t *testing.T) {
	holdSteps(t, []count{
		{"val a = raise Div", 2},
		{"val a = 1 div 0", 5},
		{"val x :: _ = [] : int list", 2},
		{"val a = (fn 1 => 2) 3", 3},
		{"fun f 0 0 = 1 val a = f 0 1", 5},
		{"val a = case 1 of 2 => 3", 2},
		{"val _ = exit 3", 3},
		{"val _ = (exit 3; print \"a\"; 4)", 4},
		{"val a = (raise Div) handle Chr => 1", 3},
		{"val a = (1 div 0, print \"a\")", 6},
	})
}

// Primitives cost as chapter 10 says.
func TestStepsOfPrimitives(t *testing.T) {
	long := func(n int) string { return `"` + strings.Repeat("s", n) + `"` }
	holdSteps(t, []count{
		{"val _ = print " + long(63), 3},
		{"val _ = print " + long(64), 4},
		{"val _ = print " + long(640), 13},
		{"val _ = " + long(32) + " ^ " + long(31), 5},
		{"val _ = " + long(32) + " ^ " + long(32), 6},
		{"val _ = String.substring (" + long(200) + ", 1, 63)", 6},
		{"val _ = String.substring (" + long(200) + ", 1, 130)", 8},
		{"val _ = String.sub (" + long(200) + ", 1)", 5},
		{"val _ = size " + long(200), 3},
		{"val _ = " + long(200) + " = " + long(200), 5},
		{"val _ = " + long(200) + " <= " + long(200), 5},
		{"val _ = str #\"a\"", 3},
		{"val _ = writeFile (\"f\", " + long(63) + ")", 5},
		{"val _ = writeFile (\"f\", " + long(128) + ")", 7},
		{"val _ = writeFile (\"\", " + long(128) + ") handle Io => ()", 1 + 5 + 1},
		{"val _ = writeFile (\"g\", " + long(100) + ") val _ = readFile \"g\"", 6 + 4},
		{"val _ = readFile \"long\"", 3 + 1024},
		{"val _ = readFile \"longer\" handle Io => \"\"", 1 + 3 + 1},
		{"val _ = inputLine ()", 3},
		{"val _ = 1" + strings.Repeat("0", 144) + " + 0", 5},     // 479 bits: 15 limbs
		{"val _ = 1" + strings.Repeat("0", 145) + " + 0", 5 + 1}, // 482 bits: 16 limbs
		{"val _ = 1" + strings.Repeat("0", 154) + " + 0", 5 + 1}, // 512 bits: 16 limbs
		{"val _ = 1" + strings.Repeat("0", 153) + " + 0", 5 + 1}, // 509 bits
		{"val _ = 1" + strings.Repeat("0", 155) + " + 0", 5 + 1}, // 515 bits: 17 limbs
		{"val _ = 1" + strings.Repeat("0", 143) + " * 1", 5},
		{"val _ = ~ (1" + strings.Repeat("0", 200) + ")", 3 + 1},
		{"val _ = 1" + strings.Repeat("0", 200) + " div 10", 5 + 1},
		{"val _ = 1" + strings.Repeat("0", 200) + " mod 10", 5},
		{"val _ = 1" + strings.Repeat("0", 200) + " div 0 handle Div => 1", 1 + 5 + 1},
		{"val _ = 1" + strings.Repeat("0", 200) + " < 0", 5},
		{"val _ = Int.toString 1" + strings.Repeat("0", 62), 3},
		{"val _ = Int.toString 1" + strings.Repeat("0", 63), 4},
		{"val _ = Real.floor 1e300", 3 + 2},
		{"val _ = Real.fromInt 1" + strings.Repeat("0", 200), 3},
		{"val _ = Vector.fromList [1, 2, 3, 4, 5, 6, 7]", 3 + 7},
		{"val _ = Vector.fromList [1, 2, 3, 4, 5, 6, 7, 8]", 3 + 8 + 1},
		{"val _ = Bytes.new 63", 3},
		{"val _ = Bytes.new 129", 5},
		{"val _ = Bytes.get (Bytes.new 64, 1)", 3 + 4 + 1},
		{"val _ = !(ref " + long(200) + ")", 5},
		{"val _ = ref 1 := 2", 3 + 3 + 1},
	})
}

// Equality takes a step for each pair of blocks, of vectors that it looks at.
func TestStepsOfEquality(t *testing.T) {
	holdSteps(t, []count{
		{"val _ = 1 = 1", 5},
		{"val _ = true = false", 5},
		{"val _ = () = ()", 5 + 1},
		{"val _ = () <> ()", 5 + 1},
		{"val _ = (1, 2) = (1, 2)", 9 + 1},
		{"val _ = (1, 2) <> (3, 2)", 9 + 1},
		{"val _ = ((1, 2), 3) = ((1, 2), 3)", 13 + 2},
		{"val _ = [1, 2] = [1, 2]", 9 + 4},
		{"val _ = [1, 2] = [1]", 8 + 2},
		{"val _ = [1, 2] = []", 7},
		{"val _ = [1, 2] = [3, 2]", 9 + 2},
		{"val _ = nil = ([] : int list)", 6},
		{"val _ = {b = 1, a = (1, 2)} = {b = 2, a = (1, 2)}", 13 + 2}, // a is ahead of b
		{"val _ = {b = (1, 2), a = 1} = {b = (1, 2), a = 2}", 13 + 1},
		{"val _ = {10 = (), 9 = 1} = {10 = (), 9 = 2}", 9 + 1}, // 9 is ahead of 10
		{"val _ = {a = (), 9 = 1} = {a = (), 9 = 2}", 9 + 1},   // numbers are ahead of names
		{"val _ = {B = 1, a = ()} = {B = 2, a = ()}", 9 + 1},   // byte by byte
		{"datatype t = A | B of int | C of int val _ = B 1 = B 1", 9 + 1},
		{"datatype t = A | B of int | C of int val _ = B 1 = C 1", 9 + 1},
		{"datatype t = A | B of int | C of int val _ = A = C 1", 7},
		{"val r = ref (1, 2) val _ = r = r", 5 + 5},
		{"val _ = Vector.fromList [1] = Vector.fromList [1]", 3 + 8 + 1},
		{"val _ = Vector.fromList [(), ()] = Vector.fromList [()]", 3 + 9 + 1},
		{"val b = Bytes.new 1 val _ = b = b", 3 + 5},
	})
}

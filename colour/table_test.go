package colour

import (
	"fmt"
	"strings"
	"testing"

	"smithy/api"
)

// holdEnds holds a program that ends with a code, behind each number of steps.
func holdEnds(t *testing.T, p api.WordProgram, code int) {
	t.Helper()
	holdCode(t, p, made(t, p), code, 400)
}

func holdCode(t *testing.T, p, q api.WordProgram, code, all int) {
	t.Helper()
	if _, status := holdAlike(t, p, q, call{}, theWorld(), all, 1<<24); status != api.Exited {
		t.Fatalf("%d: %s", status, shown(p))
	}
	a := begun(t, p, false, call{}, theWorld())
	if a.Run(1<<24) != api.Exited || a.Code() != code {
		t.Errorf("code %d, wanted %d: %s", a.Code(), code, shown(p))
	}
}

// withData is a program with some data, and room behind it.
func withData(s string) api.WordProgram {
	p := program(s)
	p.Data, p.Zero = []byte("f\x00new\x00some text of its own"), 32
	return p
}

// P19.3: by hand.
func TestTable(t *testing.T) {
	const f = "\nf 1 12 0: const 11 2; add 0 0 11; ret 0\ng 0 9 0: const 8 5; ret 8\nfour 4 9 0: add 8 0 0; add 8 8 1; add 8 8 8; sub 8 8 2; sub 8 8 3; ret 8"
	for _, r := range []struct {
		text string
		code int
	}{
		{"main 0 1 0: const 0 1; ret 0", 1},
		{"main 0 9 0: const 8 -1; ret 8", 255},
		{"main 0 2 0: const 0 1; call 1 g; ret 0" + f, 1},
		{"main 0 2 0: const 0 1; call 1 g; ret 1" + f, 5},
		{"main 0 2 0: const 0 1; call 0 g; ret 0" + f, 5},
		{"main 0 2 0: const 0 1; call 0 f 0; ret 0" + f, 3},
		{"main 0 9 0: const 0 1; const 8 7; call 0 f 8; add 0 0 8; ret 0" + f, 16},
		{"main 0 9 0: const 0 1; func 8 f; apply 1 8 0; apply 8 8 1; add 0 1 8; ret 0" + f, 8},
		{"main 0 9 0: const 0 1; func 8 f; go 8 0" + f, 3},
		{"main 0 9 0: const 0 1; func 8 g; apply 8 8; add 0 0 8; ret 0" + f, 6},
		{"main 0 9 0: const 0 1; const 1 2; const 2 3; const 3 4; tail four 0 1 2 3" + f, 1},
		{"main 0 9 0: const 0 1; const 1 2; const 2 3; const 3 4; tail four 3 2 1 0" + f, 19},
		{"main 0 9 0: const 8 9; tail four 8 8 8 8" + f, 36},
		{"main 0 9 0: const 8 9; call 8 four 8 8 8 8; call 8 four 8 8 8 8; ret 8" + f, 144},
		// parameters in another order: turned round, changed for each other
		{"main 0 9 0: const 0 1; const 1 2; const 2 3; const 3 4; const 4 5; const 8 1; tail turn 0 1 2 8\nturn 4 12 0: const 9 1; sub 10 3 9; const 11 60; branch 0 11 ltu 1; ret 0; label 1; add 11 0 1; tail turn 1 2 11 3", 77},
		{"main 0 9 0: const 0 5; const 1 100; const 2 7; tail swap 0 1 2\nswap 3 12 0: const 9 1; branch 9 2 lt 1; sub 0 0 1; ret 0; label 1; sub 2 2 9; tail swap 1 0 2", 161},
		{"main 0 9 0: const 0 5; const 1 100; const 2 7; func 3 swap; const 4 0; go 3 0 1 2 4\nswap 4 12 0: const 9 1; branch 9 2 lt 1; sub 0 0 1; ret 0; label 1; sub 2 2 9; func 5 swap; go 5 1 0 2 3", 161},
		{"main 0 9 0: const 0 5; const 1 100; const 2 7; func 3 swap; const 4 0; apply 3 3 0 1 2 4; ret 3\nswap 4 12 0: const 9 1; branch 9 2 lt 1; sub 0 0 1; ret 0; label 1; sub 2 2 9; func 5 swap; apply 5 5 1 0 2 3; ret 5", 161},
		// what is never read, or never set where nobody comes
		{"main 0 9 0: const 0 1; const 1 2; add 8 0 1; mul 7 8 0; heap 6; const 5 5; func 4 f; data 3 0; ret 0" + f, 1},
		{"main 0 9 0: const 0 1; branch 0 0 ne 1; ret 0; label 1; add 0 7 8; ret 0", 1},
		{"main 0 9 0: const 0 1; ret 0; label 1; add 0 7 8; ret 0", 1},
		{"main 0 9 3: const 0 1; branch 0 0 ne 1; ret 0; label 1; get 8 2; ret 8", 1},
		{"main 0 9 0: jump 3; label 1; label 2; ret 8; label 3; label 4; const 8 4; label 5; label 6; ret 8", 4},
		{"main 0 9 0: const 8 4; branch 8 8 eq 1; label 1; label 2; branch 8 8 ne 3; label 3; ret 8", 4},
		{"main 0 9 0: const 8 4; jump 1; label 1; jump 2; label 2; jump 3; label 3; ret 8", 4},
		{"main 0 9 0: label 7; label 9; const 8 4; label 3; ret 8", 4},
		// a parameter that is never read, a result that nobody reads
		{"main 0 9 0: const 8 4; call 7 four 8 8 8 8; call 7 none 8 8; sys 7 3 8; ret 8\nnone 2 9 0: const 3 9; ret 3" + f, 4},
		// one way alone
		{"main 0 9 0: const 0 1; const 1 0; branch 0 1 eq 1; const 8 9; const 0 7; label 1; branch 0 1 eq 2; add 1 0 8; label 2; ret 1", 16},
		{"main 0 9 0: const 0 0; const 1 0; branch 0 1 eq 1; const 8 9; const 0 7; label 1; branch 0 1 eq 2; add 1 0 8; label 2; ret 1", 0},
		{"main 0 9 2: const 0 1; const 1 0; branch 0 1 eq 1; const 8 9; put 8 1; const 0 7; label 1; branch 0 1 eq 2; get 8 1; add 1 0 8; label 2; ret 1", 16},
		{"main 0 9 0: label 1; const 0 1; branch 0 0 ne 2; const 8 6; ret 8; label 2; add 0 8 8; jump 1", 6},
		{"main 0 9 0: const 0 3; const 1 1; label 1; sub 0 0 1; branch 0 1 ne 2; ret 8; label 2; const 8 6; jump 1", 6},
		// slots
		{"main 0 9 4: const 0 1; put 0 3; const 0 2; put 0 0; get 8 3; get 7 0; sub 0 8 7; put 0 0; get 0 0; ret 0", 255},
		{"main 0 9 4: const 0 1; put 0 3; const 8 2; put 8 3; call 1 g; get 7 3; ret 7" + f, 2},
		{"main 0 9 65536: const 0 1; put 0 65535; const 8 2; put 8 0; get 0 65535; get 8 0; sub 0 8 0; ret 0", 1},
		// a register that is moved to itself, and to others round
		{"main 0 9 0: const 0 1; const 8 2; move 8 8; move 1 0; move 0 8; move 8 1; sub 0 0 8; ret 0", 1},
		{"main 0 9 0: const 0 1; move 8 0; call 1 g; move 8 8; move 1 8; ret 1" + f, 1},
		{"main 0 9 0: const 0 1; add 8 0 0; call 1 g; add 8 8 8; sub 8 8 1; ret 8" + f, 255},
		// calls in one another
		{"main 0 9 0: const 8 6; call 0 sum 8; ret 0\nsum 1 9 0: const 8 0; branch 0 8 eq 1; const 8 1; sub 7 0 8; call 7 sum 7; add 0 0 7; label 1; ret 0", 21},
		{"main 0 9 0: const 8 7; call 0 fib 8; ret 0\nfib 1 9 0: const 8 2; branch 0 8 lt 1; const 8 1; sub 7 0 8; call 6 fib 7; sub 7 7 8; call 5 fib 7; add 0 5 6; label 1; ret 0", 13},
		// loops, with values that live around them
		{"main 0 14 0: const 9 5; add 10 9 9; add 11 10 9; add 12 11 9; const 0 4; const 1 1; const 2 0; label 1; add 2 2 0; sub 0 0 1; branch 1 0 le 1; add 2 2 10; add 2 2 11; add 2 2 12; ret 2", 55},
		{"main 0 14 0: const 9 5; add 10 9 9; add 11 10 9; const 2 0; const 1 1; const 0 3; label 1; const 3 3; label 2; add 2 2 3; sub 3 3 1; branch 1 3 le 2; sub 0 0 1; branch 1 0 le 1; add 2 2 10; add 2 2 11; ret 2", 43},
		{"main 0 14 0: const 9 5; add 10 9 9; add 11 10 9; const 2 0; const 1 1; const 0 3; label 1; const 3 3; label 2; call 4 f 3; add 2 2 4; sub 3 3 1; branch 1 3 le 2; sub 0 0 1; branch 1 0 le 1; add 2 2 10; add 2 2 11; ret 2" + f, 61},
	} {
		holdEnds(t, withData(r.text), r.code)
	}
}

// P19.3: what programs write, and what they read.
func TestSystemCalls(t *testing.T) {
	const rest = "\nf 1 9 0: ret 0"
	for _, r := range []struct {
		text string
		code int
	}{
		{"main 0 20 0: const 10 1; data 11 2; const 12 4; sys 13 1 10 11 12; call 9 f 12; sys 14 1 10 11 9; add 14 14 13; ret 14" + rest, 8},
		{"main 0 20 0: const 10 0; data 11 30; const 12 3; sys 13 0 10 11 12; const 10 2; sys 14 1 10 11 13; sys 15 0 10 11 12; load 16 11 0 1; add 14 14 16; ret 14" + rest, 3 + 'o'},
		{"main 0 20 0: data 11 2; const 12 577; sys 13 2 11 12; const 10 5; sys 14 1 13 11 10; sys 15 3 13; sys 16 3 13; add 13 13 14; add 13 13 15; add 13 13 16; ret 13" + rest, 8 - 9},
		{"main 0 20 0: const 12 0; sys 13 2 12; ret 13" + rest, 256 - 14},
		{"main 0 20 0: data 11 0; sys 13 2 11; heap 14; const 17 65536; sub 14 14 17; data 15 28; sys 16 0 13 15 17; ret 16" + rest, 256 - 14},
		{"main 0 20 0: const 10 7; sys 11 60 10; ret 10" + rest, 7},
		{"main 0 20 0: sys 11 60; ret 10" + rest, 0},
		{"main 0 20 0: const 10 7; call 11 out 10; ret 10\nout 1 9 0: sys 8 60 0; ret 8", 7},
		{"main 0 20 0: sys 10 0; sys 11 1; sys 12 3; sys 13 2; add 10 10 11; add 10 10 12; add 10 10 13; ret 10" + rest, 256 - 9 - 14},
		// what lives in more registers than there are stays over a system call, which may leave them as they are
		{"main 0 20 0: const 0 1; add 1 0 0; add 2 1 0; add 3 2 0; add 4 3 0; add 5 4 0; add 6 5 0; add 7 6 0; data 9 2; sys 8 1 0 9 7; add 8 8 1; add 8 8 2; add 8 8 3; add 8 8 4; add 8 8 5; add 8 8 6; add 8 8 7; ret 8" + rest, 43},
	} {
		holdEnds(t, withData(r.text), r.code&255)
	}
}

// around is what an instruction stands in: so many values that are needed behind it, and are no constants; calls and blocks among them.
func around(n int, what, call string) string {
	var b strings.Builder
	b.WriteString("main 0 60 4: const 0 3; const 1 5; data 2 4; const 3 8; ")
	for i := range n {
		fmt.Fprintf(&b, "mul %d %d 1; ", 20+i, []int{0, 19 + i}[min(i, 1)])
	}
	b.WriteString("move 4 0; move 5 1; put 0 1; " + call + what + "; " + call)
	b.WriteString("store 2 4 8 8; store 2 5 16 8; const 10 1; sys 10 1 10 2 3; ")
	for i := range n {
		fmt.Fprintf(&b, "add 4 4 %d; ", 20+i)
	}
	b.WriteString("add 4 4 5; get 5 1; add 4 4 5; ret 4\nf 0 9 0: const 8 1; ret 8\none 1 9 0: add 0 0 0; ret 0\ntwo 2 9 0: sub 0 0 1; ret 0\nfour 4 9 0: sub 0 0 1; add 0 0 2; sub 0 0 3; ret 0")
	return b.String()
}

// P19.3: each kind of instruction, with all places for what is set and read, with as many values around it as there are colours, and
// with fewer and more.
func TestKinds(t *testing.T) {
	t.Parallel()
	kinds := []string{"const %d 7", "move %d %d", "load %d 2 0 8", "func %d one", "heap %d", "data %d 3", "get %d 1", "put %[2]d 1; get %[1]d 1", "sys %d 3 %d", "call %d f", "call %d one %d", "call %d two %d %d",
		"call %d four %d %d %[2]d %[3]d", "func 6 one; apply %d 6 %d", "func 6 four; apply %d 6 %d %d %[2]d %[3]d", "set %d %d %d lt", "set %d %d %d eq", "store 2 %[2]d 4 4; move %[1]d %[3]d",
		"branch %[2]d %[3]d lt 1; move %[1]d %[2]d; label 1", "branch %[2]d %[3]d le 1; move %[1]d %[2]d; jump 2; label 1; move %[1]d %[3]d; label 2", "func 6 f; func %[1]d one; apply 6 6; apply %[1]d %[1]d %[3]d"}
	for _, k := range strings.Fields("add sub mul high div rem and or xor shl shr sar") {
		kinds = append(kinds, k+" %d %d %d")
	}
	for _, k := range strings.Fields("add sub mul div lt le eq int") {
		kinds = append(kinds, "real %d %d %d "+k)
	}
	for _, k := range kinds {
		for _, at := range [][3]int{{7, 4, 5}, {4, 4, 5}, {5, 4, 5}, {4, 4, 4}, {7, 4, 4}, {4, 5, 5}, {7, 0, 1}, {0, 0, 1}, {7, 1, 4}} {
			what := fmt.Sprintf(k, at[0], at[1], at[2])
			what, _, _ = strings.Cut(what, "%!(EXTRA")
			for _, n := range []int{0, 3, 4, 5, 9, 30} {
				for _, c := range []string{"", "call 11 f; ", "label 8; label 9; "} {
					s := around(n, what, c)
					if strings.Count(s, "label 8") > 1 {
						s = strings.Replace(strings.Replace(s, "label 8", "label 18", 1), "label 9", "jump 19; label 19", 1)
					}
					p := withData(s)
					if _, status := holdAlike(t, p, made(t, p), call{}, theWorld(), 3, 5000); status != api.Exited {
						t.Fatalf("%d: %s", status, s)
					}
				}
			}
		}
	}
}

// P19.3: programs that are stuck, at once and later: up to there they are alike, and coloured they are.
func TestStuck(t *testing.T) {
	for _, r := range []struct {
		text  string
		steps int
	}{
		{"main 0 1 0: ret 0", 0},
		{"main 0 9 0: ret 8", 0},
		{"main 0 9 0: add 0 7 8; ret 0", 0},
		{"main 0 9 3: get 0 2; ret 0", 0},
		{"main 0 9 0: const 0 1; call 1 f; ret 2\nf 0 9 0: const 8 1; ret 8", 4},
		{"main 0 9 0: const 0 1; call 1 f; ret 0\nf 0 9 0: ret 8", 2},
		{"main 0 9 0: const 0 0; div 1 0 0; ret 1", 1},
		{"main 0 9 0: const 0 0; div 1 0 0; ret 0", 1},
		{"main 0 9 0: const 0 1; sys 1 99 0; ret 0", 1},
		{"main 0 9 0: const 0 1; load 1 0 0 8; ret 0", 1},
		{"main 0 9 0: const 0 1; apply 1 0; ret 0", 1},
		{"main 0 9 0: const 0 1; go 0", 1},
		{"main 0 9 0: const 0 1; branch 0 0 ne 1; branch 0 8 eq 2; label 1; const 8 1; jump 2; label 2; ret 8", 2},
		{"main 0 9 0: label 1; const 0 1; branch 0 8 eq 2; label 2; const 8 1; jump 1", 1},
		{"main 0 9 0: const 0 1; data 2 2; sys 3 1 0 2 0; add 8 7 0; sys 3 1 0 2 0; ret 0", 3},
		{"main 0 9 0: const 0 1; data 2 2; sys 3 1 0 2 0; tail f 0 2 3 0\nf 4 12 0: sys 3 1 0 1 0; sub 2 2 11; ret 2", 5},
	} {
		p := withData(r.text)
		if n, status := holdAlike(t, p, made(t, p), call{}, theWorld(), 50, 50); status != api.Stuck || n != r.steps {
			t.Errorf("%d steps, %d: %s", n, status, r.text)
		}
	}
}

// P19.3: programs that go on for ever.
func TestEver(t *testing.T) {
	for _, s := range []string{
		"main 0 0 0: label 1; jump 1", "main 0 9 0: label 1; const 8 1; jump 1", "main 0 9 0: label 1; branch 2 2 eq 1; jump 1", "main 0 9 0: const 0 1; data 1 0; label 1; sys 8 1 0 1 0; jump 1",
		"main 0 9 0: const 0 1; data 1 0; label 1; sys 8 1 0 1 0; branch 0 0 eq 1; branch 1 0 eq 1; jump 1", "main 0 9 0: tail main", "main 0 9 0: func 8 main; go 8",
		"main 0 12 0: const 8 1; add 9 8 8; add 10 9 8; call 7 main; add 8 8 9; add 8 8 10; ret 8",
		"main 0 9 0: const 0 5; tail f 0\nf 1 20 0: const 1 1; data 2 0; sys 15 1 1 2 0; add 3 15 1; add 4 3 1; add 5 4 1; add 6 5 1; add 7 6 1; add 8 7 1; add 9 8 1; sub 10 9 3; sub 10 10 4; add 10 10 5; sub 10 10 6; add 10 10 7; sub 10 10 8; add 10 10 0; and 10 10 1; tail f 10",
	} {
		p := withData(s)
		q := made(t, p)
		if _, status := holdAlike(t, p, q, call{}, theWorld(), 400, 20000); status == api.Exited {
			t.Error(s)
		}
	}
}

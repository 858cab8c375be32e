package word

import (
	"fmt"
	"math/rand/v2"
	"strings"
	"testing"
	"time"

	"smithy/api"
)

// cell is a register, or a slot.
type cell struct {
	slot bool
	n    int
}

// reading are the cells that an instruction reads.
func reading(w api.Word) map[cell]bool {
	out := map[cell]bool{}
	_, fields := form(w.Kind)
	for _, c := range fields {
		switch c {
		case 'A':
			out[cell{n: w.A}] = true
		case 'B':
			out[cell{n: w.B}] = true
		case 'l':
			for _, r := range w.Args {
				out[cell{n: r}] = true
			}
		}
	}
	if w.Kind == api.WordGet {
		out[cell{true, int(w.Imm)}] = true
	}
	return out
}

// naiveStrict goes all ways, for each cell alone.
func naiveStrict(p api.WordProgram) bool {
	for _, f := range p.Funs {
		cells := map[cell]bool{}
		for _, w := range f.Code {
			for c := range reading(w) {
				cells[c] = true
			}
		}
		for c := range cells {
			if !alwaysSet(f, c) {
				return false
			}
		}
	}
	return true
}

func alwaysSet(f api.WordFunction, c cell) bool {
	type state struct {
		at  int
		set bool
	}
	place := map[int]int{}
	for i, w := range f.Code {
		if w.Kind == api.WordLabel {
			place[w.L] = i
		}
	}
	seen := map[state]bool{}
	todo := []state{{0, !c.slot && c.n < f.Params}}
	for len(todo) > 0 {
		s := todo[0]
		todo = todo[1:]
		if seen[s] {
			continue
		}
		seen[s] = true
		w := f.Code[s.at]
		if reading(w)[c] && !s.set {
			return false
		}
		_, fields := form(w.Kind)
		if (w.Kind == api.WordCall || w.Kind == api.WordApply) && !c.slot {
			s.set = false
		}
		if !c.slot && strings.Contains(fields, "D") && w.D == c.n || c.slot && w.Kind == api.WordPut && int(w.Imm) == c.n {
			s.set = true
		}
		switch w.Kind {
		case api.WordJump:
			todo = append(todo, state{place[w.L], s.set})
		case api.WordBranch:
			todo = append(todo, state{place[w.L], s.set}, state{s.at + 1, s.set})
		case api.WordTail, api.WordGo, api.WordRet:
		default:
			todo = append(todo, state{s.at + 1, s.set})
		}
	}
	return true
}

// strictly holds what Strict says of a program.
func strictly(t *testing.T, want bool, p api.WordProgram) {
	t.Helper()
	if e := Check(p); e != api.OK {
		t.Fatalf("%v of\n%s", e, text(p))
	}
	if Strict(p) != want || naiveStrict(p) != want {
		t.Errorf("strict %v (slowly %v), wanted %v, of\n%s", Strict(p), naiveStrict(p), want, text(p))
	}
}

// P13.2: on no way, on one of two, on every way, ahead of a loop and within it, behind what nothing comes to, behind a call.
func TestStrictWays(t *testing.T) {
	const more = "\nf 0 1 0: const 0 1; ret 0\ng 2 3 1: ret 1"
	for s, want := range map[string]bool{
		"ret 0":            false,
		"const 0 1; ret 0": true,
		"const 1 1; ret 0": false,
		"const 0 1; branch 0 0 eq 1; const 1 1; label 1; ret 1":                               false,
		"const 0 1; branch 0 0 eq 1; const 1 1; ret 1; label 1; ret 1":                        false,
		"const 0 1; branch 0 0 eq 1; const 1 1; ret 1; label 1; ret 0":                        true,
		"const 0 1; branch 0 0 ne 1; const 1 1; jump 2; label 1; const 1 2; label 2; ret 1":   true,
		"const 0 1; branch 0 0 ne 1; const 1 1; jump 2; label 1; const 2 2; label 2; ret 1":   false,
		"const 0 1; branch 0 0 ne 1; const 2 1; jump 2; label 1; const 1 2; label 2; ret 1":   false,
		"const 0 1; label 1; add 0 0 0; jump 1":                                               true,
		"label 1; add 0 0 0; jump 1":                                                          false,
		"label 1; const 0 1; add 0 0 0; jump 1":                                               true,
		"const 0 1; label 1; branch 0 0 eq 2; const 1 1; jump 1; label 2; ret 1":              false,
		"const 0 1; const 1 1; label 1; branch 0 0 eq 2; const 1 1; jump 1; label 2; ret 1":   true,
		"const 0 1; label 1; branch 0 1 eq 2; const 1 1; jump 1; label 2; ret 0":              false,
		"jump 1; ret 0; label 1; const 0 1; ret 0":                                            true,
		"jump 1; label 2; ret 0; label 1; const 0 1; ret 0":                                   true,
		"jump 1; label 2; ret 0; label 1; jump 2":                                             false,
		"jump 1; label 2; jump 1; label 1; const 0 1; ret 0; ret 1; label 3; get 1 1; jump 3": true,
		"jump 1; label 2; const 0 1; label 1; ret 0; jump 2":                                  false,
		"const 0 1; jump 1; label 2; call 1 f; label 1; ret 0":                                true,
		"const 0 1; branch 0 0 eq 1; call 1 f; label 1; ret 0":                                false,
		"const 0 1; branch 0 0 eq 1; call 0 f; label 1; ret 0":                                true,
		"const 0 1; call 1 f; ret 1":                                                          true,
		"const 0 1; call 1 f; ret 0":                                                          false,
		"const 0 1; call 0 f; ret 0":                                                          true,
		"const 0 1; call 1 f; const 0 1; add 0 0 1; ret 0":                                    true,
		"func 0 f; apply 1 0; ret 1":                                                          true,
		"func 0 f; apply 1 0; ret 0":                                                          false,
		"func 0 f; apply 0 0; ret 0":                                                          true,
		"func 0 f; apply 1 0; apply 1 0; ret 1":                                               false,
		"const 0 1; put 0 0; call 1 f; get 2 0; add 1 1 2; ret 1":                             true,
		"const 0 1; call 1 f; put 1 0; get 0 0; ret 0":                                        true,
		"const 0 1; call 1 f; put 0 0; get 0 0; ret 0":                                        false,
		"get 0 0; ret 0":                                               false,
		"const 0 1; put 0 0; get 0 1; ret 0":                           false,
		"const 0 1; put 0 1; get 0 1; ret 0":                           true,
		"const 0 1; branch 0 0 eq 1; put 0 0; label 1; get 0 0; ret 0": false,
		"const 0 1; branch 0 0 eq 1; put 0 0; jump 2; label 1; put 0 0; label 2; get 0 0; ret 0": true,
		"const 0 1; label 1; put 0 0; branch 0 0 eq 2; jump 1; label 2; get 0 0; ret 0":          true,
		"const 0 1; label 1; branch 0 0 eq 2; put 0 0; jump 1; label 2; get 0 0; ret 0":          false,
		"const 0 1; const 1 1; call 2 g 0 1; ret 2":                                              true,
		"const 0 1; call 2 g 0 1; ret 2":                                                         false,
		"const 1 1; call 2 g 0 1; ret 2":                                                         false,
		"const 0 1; tail g 0 0; ret 3":                                                           true,
		"tail g 0 0":                                                                             false,
		"const 0 1; tail g 0 1":                                                                  false,
		"const 0 1; go 0 0 0 0; get 0 0; ret 0":                                                  true,
		"const 0 1; go 1":                                                                        false,
		"const 0 1; go 0 0 1":                                                                    false,
		"const 0 1; apply 1 0 0 1; ret 1":                                                        false,
		"const 0 1; sys 1 60 0; ret 2":                                                           false,
		"const 0 1; sys 1 60 0; ret 1":                                                           true,
		"const 0 1; sys 1 60 0; ret 0":                                                           true,
		"const 0 1; sys 1 77 0 0 2; ret 1":                                                       false,
		"const 0 1; real 1 0 0 int; ret 1":                                                       true,
		"const 0 1; real 1 0 1 int; ret 1":                                                       false,
		"const 0 1; branch 0 0 eq 1; ret 1; label 1; ret 0":                                      false,
		"const 0 1; div 1 0 0; ret 1":                                                            true,
		"jump 2; label 1; ret 1; label 2; const 1 1; jump 1":                                     true,
		"const 0 1; branch 0 0 eq 2; tail f; label 1; ret 1; label 2; const 1 1; branch 0 0 eq 1; go 0": true,
		"move 0 0; ret 0":                                                                                 false,
		"label 1; call 0 f; jump 1":                                                                       true,
		"label 1; call 0 f; branch 0 0 eq 1; ret 0":                                                       true,
		"const 1 1; label 1; call 0 f; branch 0 1 eq 1; ret 0":                                            false,
		"label 1; call 0 f; branch 0 0 eq 2; jump 1; label 2; ret 1":                                      false,
		"const 1 1; put 1 0; label 1; call 0 f; get 1 0; branch 0 1 eq 1; ret 0":                          true,
		"const 1 1; label 1; put 1 0; call 0 f; get 2 0; branch 0 2 eq 1; ret 0":                          false,
		"const 1 1; label 1; put 1 0; call 0 f; get 1 0; branch 0 1 eq 1; ret 0":                          true,
		"call 0 f; call 1 f; ret 0":                                                                       false,
		"call 0 f; call 0 f; ret 0":                                                                       true,
		"call 0 f; put 0 1; call 1 f; get 0 1; ret 0":                                                     true,
		"const 0 1; branch 0 0 eq 1; call 1 f; jump 2; label 1; const 1 1; label 2; ret 1":                true,
		"const 0 1; branch 0 0 eq 1; call 1 f; jump 2; label 1; const 1 1; label 2; ret 0":                false,
		"const 7 1; label 9; branch 7 7 eq 8; label 7; branch 7 7 eq 9; call 7 f; jump 7; label 8; ret 7": true,
		"const 7 1; label 9; branch 7 7 eq 8; label 7; branch 7 7 eq 9; call 6 f; jump 7; label 8; ret 7": false,
	} {
		p := program("main 0 8 2: " + s + more)
		strictly(t, want, p)
		// the same in another function, which nothing calls
		p = program("main 0 1 0: const 0 1; ret 0\nf 0 1 0: const 0 1; ret 0\ng 2 3 1: ret 1\nh 0 8 2: " + s)
		strictly(t, want, p)
	}
}

// P13.2: parameters are set, and nothing else, at the beginning, and not behind a call.
func TestStrictParameters(t *testing.T) {
	const main = "main 0 1 0: const 0 1; ret 0\n"
	for n := range 5 {
		for r := range 5 {
			strictly(t, r < n, program(main+fmt.Sprintf("f %d 5 0: ret %d", n, r)))
			strictly(t, false, program(main+fmt.Sprintf("f %d 6 0: call 5 main; ret %d", n, r)))
			strictly(t, true, program(main+fmt.Sprintf("f %d 6 0: call %d main; ret %d", n, r, r)))
			strictly(t, false, program(main+fmt.Sprintf("f %d 6 0: label 1; move 5 %d; call 5 main; jump 1", n, r)))
			strictly(t, r < n, program(main+fmt.Sprintf("f %d 6 0: label 1; move 5 %d; branch 5 5 eq 1; ret 5", n, r)))
			strictly(t, false, program(main+fmt.Sprintf("f %d 6 5: get 5 %d; ret 5", n, r)))
		}
	}
}

// P13.2: each kind of instruction reads its registers and slots, and sets D or its slot; all alone, and behind a label or a branch.
func TestStrictKinds(t *testing.T) {
	for name, form := range forms {
		w := api.Word{Kind: form.kind, D: 0, A: 1, B: 2, L: 1, F: 1, Cond: 1, Real: 1, Size: 8, Imm: 1}
		if strings.Contains(form.fields, "l") {
			w.Args = []int{3, 4, 5}
		}
		base := func(l ...api.Word) api.WordProgram {
			p := program("main 0 9 2: const 0 1\nf 3 3 0: ret 0")
			p.Zero = 1
			p.Funs[0].Code = append(l, code1("const 0 1; ret 0")...)
			if name != "label" {
				p.Funs[0].Code = append(p.Funs[0].Code, code1("label 1; const 0 1; ret 0")...)
			}
			return p
		}
		var all []api.Word
		for i := 1; i < 9; i++ {
			all = append(all, api.Word{Kind: api.WordConst, D: i})
		}
		all = append(all, api.Word{Kind: api.WordPut, A: 8, Imm: 1})
		full := base(append(all, w)...)
		strictly(t, true, full)
		need := reading(w)
		for i, x := range all {
			c := cell{n: x.D}
			if x.Kind == api.WordPut {
				c = cell{true, 1}
			}
			var l []api.Word
			for j, y := range all {
				if j != i && !(x.D == 8 && y.Kind == api.WordPut) {
					l = append(l, y)
				}
			}
			strictly(t, !need[c] && !(x.D == 8 && need[cell{true, 1}]), base(append(l, w)...))
			l = append(l, code1("const 0 1; branch 0 0 eq 77; label 77; label 78")...)
			strictly(t, !need[c] && !(x.D == 8 && need[cell{true, 1}]), base(append(l, w)...))
		}
		// what it sets may be read behind it, unless it leaves
		behind := func(l string) api.WordProgram {
			p := program("main 0 10 3: const 0 1\nf 3 3 0: ret 0")
			p.Zero = 1
			p.Funs[0].Code = append(append([]api.Word{}, all...), w)
			if name != "label" {
				l += "; label 1; const 0 1; ret 0"
			}
			p.Funs[0].Code = append(p.Funs[0].Code, code1(l)...)
			return p
		}
		gone := name == "jump" || name == "tail" || name == "go" || name == "ret"
		strictly(t, gone || strings.Contains(form.fields, "D"), behind("ret 0"))
		strictly(t, gone, behind("ret 9"))
		strictly(t, true, behind("get 0 1; ret 0"))
		strictly(t, gone, behind("get 0 2; ret 0"))
		strictly(t, gone || name != "call" && name != "apply", behind("ret 8"))
	}
	p := program("main 0 1 2: const 0 1; put 0 1; get 0 1; ret 0")
	strictly(t, true, p)
}

// More cells than are looked at in one go, wanted in several blocks.
func TestStrictManyCells(t *testing.T) {
	build := func(n int, slots bool, but int) api.WordProgram {
		var l []api.Word
		l = append(l, api.Word{Kind: api.WordConst, D: n})
		for i := range n {
			switch {
			case i == but:
			case slots:
				l = append(l, api.Word{Kind: api.WordPut, A: n, Imm: int64(i)})
			default:
				l = append(l, api.Word{Kind: api.WordConst, D: i})
			}
		}
		for i := range n {
			l = append(l, api.Word{Kind: api.WordBranch, A: n, B: n, Cond: 1, L: i}, api.Word{Kind: api.WordLabel, L: i})
			if slots {
				l = append(l, api.Word{Kind: api.WordGet, D: n, Imm: int64(i)})
			} else {
				l = append(l, api.Word{Kind: api.WordMove, D: n, A: i})
			}
		}
		l = append(l, api.Word{Kind: api.WordRet, A: n})
		return api.WordProgram{Funs: []api.WordFunction{{Regs: n + 1, Slots: n, Code: l}}}
	}
	for _, n := range []int{1, 63, 64, 65, 127, 128, 129, 1000} {
		both(func(slots bool) {
			if !Strict(build(n, slots, -1)) {
				t.Error(n, slots)
			}
			for _, but := range []int{0, 1, 62, 63, 64, 65, n / 2, n - 1} {
				if but < n && Strict(build(n, slots, but)) {
					t.Error(n, slots, but)
				}
			}
		})
	}
}

// P13.2: as much as a program may have, in a time that can be waited for.
func TestStrictGreat(t *testing.T) {
	t.Parallel()
	begin := time.Now()
	l := make([]api.Word, 0, api.MaxLines)
	for i := range api.MaxRegs {
		l = append(l, api.Word{Kind: api.WordConst, D: i})
	}
	for i := range api.MaxFrame {
		l = append(l, api.Word{Kind: api.WordPut, A: 5, Imm: int64(i)})
	}
	half := len(l)
	l = append(l, api.Word{Kind: api.WordLabel, L: 1})
	for i := range api.MaxRegs - 1 {
		l = append(l, api.Word{Kind: api.WordMove, D: i, A: i + 1})
	}
	for i := range api.MaxFrame {
		l = append(l, api.Word{Kind: api.WordGet, D: 5, Imm: int64(i)})
	}
	l = append(l, api.Word{Kind: api.WordBranch, A: 1, B: 2, Cond: api.CondEq, L: 1})
	for len(l) < api.MaxLines-2 {
		l = append(l, api.Word{Kind: api.WordLabel, L: len(l)}, api.Word{Kind: api.WordBranch, A: 1, B: 2, Cond: api.CondEq, L: len(l)})
	}
	l = append(l, api.Word{Kind: api.WordRet, A: api.MaxRegs - 1})
	p := api.WordProgram{Funs: []api.WordFunction{{Regs: api.MaxRegs, Slots: api.MaxFrame, Code: l}}}
	if !Strict(p) {
		t.Error("not strict")
	}
	l[half-1].Imm = 0
	if Strict(p) {
		t.Error("strict without its last slot")
	}
	l[half-1].Imm, l[api.MaxRegs-1].D = api.MaxFrame-1, 0
	if Strict(p) {
		t.Error("strict without its last register")
	}
	many := make([]api.WordFunction, 1<<20)
	for i := range many {
		many[i] = api.WordFunction{Regs: api.MaxRegs, Slots: api.MaxFrame, Code: []api.Word{{Kind: api.WordConst, D: api.MaxRegs - 1}, {Kind: api.WordPut, A: api.MaxRegs - 1}, {Kind: api.WordGet}, {Kind: api.WordRet}}}
	}
	if !Strict(api.WordProgram{Funs: many}) {
		t.Error("many functions")
	}
	if d := time.Since(begin); d > 60*time.Second {
		t.Error(d)
	}
}

// P13.2: programs at random, and each of them with one instruction less.
func TestStrictRandom(t *testing.T) {
	strict := make([]int, 3000)
	hands(len(strict), func(i int) {
		r := rand.New(rand.NewPCG(13, uint64(i)))
		p := (&maker{r: r, careful: r.IntN(2) == 0}).program()
		want := naiveStrict(p)
		if want {
			strict[i] = 1
		}
		if Strict(p) != want {
			t.Errorf("%v, wanted %v, of\n%s", Strict(p), want, text(p))
		}
		for range 6 {
			q := copied(p)
			f := r.IntN(len(q.Funs))
			l := q.Funs[f].Code
			at := r.IntN(len(l))
			if l[at].Kind == api.WordLabel || at == len(l)-1 {
				continue
			}
			q.Funs[f].Code = append(l[:at:at], l[at+1:]...)
			if want := naiveStrict(q); Strict(q) != want {
				t.Errorf("%v, wanted %v, of\n%s", Strict(q), want, text(q))
			}
		}
	})
	n := 0
	for _, x := range strict {
		n += x
	}
	if n < len(strict)/10 || n > len(strict)*9/10 {
		t.Errorf("%d of %d are strict", n, len(strict))
	}
}

package word

import (
	"fmt"
	"math"
	"testing"

	"smithy/api"
)

// everything is a program with each kind of instruction, in a function that nothing calls, behind what leaves it; and once more in the
// first function.
func everything() api.WordProgram {
	all := "const 0 -5; move 1 0; add 2 0 1; sub 2 0 1; mul 2 0 1; high 2 0 1; div 2 0 1; rem 2 0 1; and 2 0 1; or 2 0 1; xor 2 0 1; shl 2 0 1; shr 2 0 1; " +
		"sar 2 0 1; set 2 0 1 leu; real 2 0 1 int; load 2 0 5 8; store 0 1 6 4; label 3; jump 3; branch 0 1 eq 3; call 2 two 0 1; apply 2 0 1 1 1 1; data 2 16; " +
		"func 2 none; heap 2; sys 2 60 0 1 2; get 2 1; put 2 0; tail two 2 2; go 0 2 2 2 2; ret 2; "
	p := program("main 0 3 2: " + all + "jump 3\nnone 0 0 0: label 1; jump 1\ntwo 2 3 2: ret 1; " + all + "tail none")
	p.Data = make([]byte, 8)
	p.Zero = 8
	return p
}

// at is the number of the instruction of a kind in one of the functions of everything.
func at(p api.WordProgram, f, kind int) int {
	for i, w := range p.Funs[f].Code {
		if w.Kind == kind {
			return i
		}
	}
	panic("no such kind")
}

// refused holds that a program may not be: Check, Strict and New say so.
func refused(t *testing.T, what string, p api.WordProgram) {
	t.Helper()
	if Check(p) != api.ErrWordForm || Strict(p) {
		t.Errorf("%s: %v, %v", what, Check(p), Strict(p))
	}
	if s, e := New(p, least, true, nil); s != nil || e != api.ErrWordForm {
		t.Errorf("%s: New %v", what, e)
	}
}

func taken(t *testing.T, what string, p api.WordProgram) {
	t.Helper()
	if e := Check(p); e != api.OK {
		t.Errorf("%s: %v", what, e)
	}
}

// P13.1: a program as it may be, and what of it as a whole may not.
func TestWhole(t *testing.T) {
	p := everything()
	taken(t, "everything", p)
	refused(t, "the zero program", api.WordProgram{})
	refused(t, "no function", api.WordProgram{Data: make([]byte, 8)})
	p.Funs[0].Params = 1
	refused(t, "a parameter of the first one", p)
	p = program("main 0 1 0: const 0 1; ret 0")
	taken(t, "one function", p)
	for _, z := range []int{-1, math.MinInt, math.MaxInt, api.MaxData + 1} {
		p.Zero = z
		refused(t, fmt.Sprint("Zero ", z), p)
	}
	p.Zero = api.MaxData
	taken(t, "Zero", p)
	p.Data = make([]byte, 1)
	refused(t, "Data and Zero", p)
	p.Zero--
	taken(t, "Data and Zero", p)
	p.Data, p.Zero = make([]byte, api.MaxData), 0
	taken(t, "Data", p)
	p.Zero = 1
	refused(t, "Data and Zero", p)
	p.Zero = math.MaxInt
	refused(t, "Data and Zero", p)
	p.Data, p.Zero = make([]byte, api.MaxData+1), 0
	refused(t, "Data", p)
	p.Zero = -1
	refused(t, "Data less Zero", p)
}

// P13.1: the number of instructions in all.
func TestLines(t *testing.T) {
	t.Parallel()
	l := make([]api.Word, api.MaxLines+1)
	for i := range l {
		l[i] = api.Word{Kind: api.WordRet}
	}
	one := func(n int) api.WordFunction { return api.WordFunction{Regs: 1, Code: l[:n]} }
	taken(t, "one", api.WordProgram{Funs: []api.WordFunction{one(api.MaxLines)}})
	refused(t, "one", api.WordProgram{Funs: []api.WordFunction{one(api.MaxLines + 1)}})
	taken(t, "two", api.WordProgram{Funs: []api.WordFunction{one(api.MaxLines - 1), one(1)}})
	refused(t, "two", api.WordProgram{Funs: []api.WordFunction{one(api.MaxLines), one(1)}})
	refused(t, "many times the same", api.WordProgram{Funs: []api.WordFunction{one(1 << 21), one(1 << 20), one(1 << 20), one(1)}})
	var many []api.WordFunction
	for range 1 << 20 {
		many = append(many, one(5))
	}
	refused(t, "many times the same", api.WordProgram{Funs: many})
	l[api.MaxLines-1].Kind, l[api.MaxLines-1].L, l[7] = api.WordJump, 5, api.Word{Kind: api.WordLabel, L: 5}
	taken(t, "a jump far back", api.WordProgram{Funs: []api.WordFunction{one(api.MaxLines)}})
}

// P13.1: parameters, registers, slots, of whichever function.
func TestHeads(t *testing.T) {
	for f := range 3 {
		head := func(params, regs, slots int) api.WordProgram {
			p := program("main 0 1 0: jump 1; label 1; jump 1\na 0 1 0: label 1; jump 1\nb 0 1 0: label 1; jump 1")
			p.Funs[f].Params, p.Funs[f].Regs, p.Funs[f].Slots = params, regs, slots
			return p
		}
		for _, x := range [][3]int{{0, 0, 0}, {0, 1, 0}, {0, api.MaxRegs, 0}, {0, 0, api.MaxFrame}, {0, 3, 1}} {
			taken(t, fmt.Sprint(f, x), head(x[0], x[1], x[2]))
		}
		for _, x := range [][3]int{{1, 1, 0}, {4, 4, 0}, {4, api.MaxRegs, api.MaxFrame}} {
			if f > 0 {
				taken(t, fmt.Sprint(f, x), head(x[0], x[1], x[2]))
			} else {
				refused(t, fmt.Sprint(f, x), head(x[0], x[1], x[2]))
			}
		}
		for _, x := range [][3]int{
			{-1, 1, 0}, {math.MinInt, 1, 0}, {5, 5, 0}, {math.MaxInt, math.MaxInt, 0}, {1, 0, 0}, {4, 3, 0}, {0, -1, 0}, {0, math.MinInt, 0}, {0, api.MaxRegs + 1, 0},
			{0, math.MaxInt, 0}, {0, 0, -1}, {0, 0, math.MinInt}, {0, 0, api.MaxFrame + 1}, {0, 0, math.MaxInt}, {-1, -1, 0}, {-2, -1, 0},
		} {
			refused(t, fmt.Sprint(f, x), head(x[0], x[1], x[2]))
		}
	}
}

// P13.1: the last instruction of a function.
func TestLast(t *testing.T) {
	for kind := range 40 {
		p := everything()
		for f := range p.Funs {
			if f == 1 {
				continue
			}
			q := copied(p)
			for i, w := range q.Funs[f].Code {
				if w.Kind == kind && kind != api.WordLabel {
					q.Funs[f].Code = append(q.Funs[f].Code, q.Funs[f].Code[i])
					break
				}
			}
			switch kind {
			case api.WordJump, api.WordTail, api.WordGo, api.WordRet:
				taken(t, fmt.Sprint(kind), q)
			case 0, 33, 34, 35, 36, 37, 38, 39:
			case api.WordLabel:
				q.Funs[f].Code = append(q.Funs[f].Code, api.Word{Kind: kind, L: 99})
				refused(t, fmt.Sprint(kind), q)
			default:
				refused(t, fmt.Sprint(kind), q)
			}
		}
	}
	p := everything()
	p.Funs[1].Code = nil
	refused(t, "no instruction", p)
	p.Funs[1].Code = []api.Word{}
	refused(t, "no instruction", p)
}

// P13.1: each field of each kind: what it may be, what it may not; and what is in fields that the table doesn't name doesn't count.
func TestFields(t *testing.T) {
	odd := []int{-1, math.MinInt, math.MaxInt, math.MinInt32, 1 << 32, 1<<32 + 1, math.MaxInt32, 3, 100}
	for _, f := range []int{0, 2} {
		for name, form := range forms {
			named := map[rune]bool{}
			for _, c := range form.fields {
				named[c] = true
			}
			set := func(field rune, may bool, n int) {
				p := everything()
				w := &p.Funs[f].Code[at(p, f, form.kind)]
				switch field {
				case 'D':
					w.D = n
				case 'A':
					w.A = n
				case 'B':
					w.B = n
				case 'L':
					w.L = n
				case 'F':
					w.F = n
				case 'C':
					w.Cond = n
				case 'R':
					w.Real = n
				case 'S':
					w.Size = n
				}
				what := fmt.Sprintf("function %d, %s, %c %d", f, name, field, n)
				if may || !named[field] {
					taken(t, what, p)
				} else {
					refused(t, what, p)
				}
			}
			for _, field := range "DAB" {
				for n := range 3 {
					set(field, true, n)
				}
				for _, n := range odd {
					set(field, false, n)
				}
			}
			for _, n := range odd {
				if name != "label" {
					set('L', n == 3, n)
				}
				set('F', false, n)
				set('C', n == 3, n)
				set('R', n == 3, n)
				set('S', false, n)
			}
			if name != "label" {
				for _, n := range []int{0, 1, 2, 4} {
					set('L', false, n)
				}
			}
			set('F', name == "func", 0)
			set('F', name == "func", 1)
			set('F', true, 2)
			for n := range 12 {
				set('C', n >= 1 && n <= 6, n)
				set('R', n >= 1 && n <= 8, n)
				set('S', n == 1 || n == 4 || n == 8, n)
			}
		}
	}
}

// P13.1: kinds that there are not.
func TestKinds(t *testing.T) {
	for _, f := range []int{0, 2} {
		for _, kind := range []int{0, -1, 33, 34, 100, 256 + api.WordConst, 1 << 32, 1<<32 + 1, math.MinInt, math.MaxInt} {
			p := everything()
			p.Funs[f].Code[at(p, f, api.WordConst)].Kind = kind
			refused(t, fmt.Sprint("kind ", kind), p)
			p = everything()
			p.Funs[f].Code[len(p.Funs[f].Code)-1].Kind = kind
			refused(t, fmt.Sprint("last kind ", kind), p)
		}
	}
}

// P13.1: Imm of each kind.
func TestImm(t *testing.T) {
	may := map[string]func(n int64) bool{
		"load": func(n int64) bool { return n == int64(int32(n)) }, "store": func(n int64) bool { return n == int64(int32(n)) },
		"data": func(n int64) bool { return n >= 0 && n <= 16 }, "get": func(n int64) bool { return n == 0 || n == 1 }, "put": func(n int64) bool { return n == 0 || n == 1 },
	}
	values := []int64{0, 1, 2, 3, 8, 15, 16, 17, -1, -2, math.MinInt32, math.MinInt32 - 1, math.MaxInt32, math.MaxInt32 + 1, 1 << 32, 1<<32 + 1, math.MinInt64, math.MaxInt64}
	for _, f := range []int{0, 2} {
		for name, form := range forms {
			for _, n := range values {
				p := everything()
				p.Funs[f].Code[at(p, f, form.kind)].Imm = n
				what := fmt.Sprint("function ", f, ", ", name, ", Imm ", n)
				if is, told := may[name]; told && !is(n) {
					refused(t, what, p)
				} else {
					taken(t, what, p)
				}
			}
		}
	}
	p := program("main 0 1 0: data 0 0; ret 0")
	taken(t, "no data", p)
	p.Funs[0].Code[0].Imm = 1
	refused(t, "no data", p)
	p = program("main 0 1 0: const 0 1; put 0 0; ret 0")
	refused(t, "no slot", p)
	p.Funs[0].Slots = api.MaxFrame
	p.Funs[0].Code[1].Imm = api.MaxFrame - 1
	taken(t, "the last slot", p)
	p.Funs[0].Code[1].Imm++
	refused(t, "behind the last slot", p)
	p.Zero = api.MaxData
	p.Funs[0].Code[1] = api.Word{Kind: api.WordData, Imm: api.MaxData}
	taken(t, "behind the data", p)
	p.Funs[0].Code[1].Imm++
	refused(t, "far behind the data", p)
}

// P13.1: Args: registers, and how many of them.
func TestArgs(t *testing.T) {
	may := map[string]func(n int) bool{
		"call": func(n int) bool { return n == 2 }, "tail": func(n int) bool { return n == 2 }, "apply": func(n int) bool { return n <= 4 },
		"go": func(n int) bool { return n <= 4 }, "sys": func(n int) bool { return n <= 3 },
	}
	for _, f := range []int{0, 2} {
		for name, form := range forms {
			is, told := may[name]
			for n := range 7 {
				p := everything()
				p.Funs[f].Code[at(p, f, form.kind)].Args = make([]int, n)
				what := fmt.Sprint("function ", f, ", ", name, ", ", n, " Args")
				if told && !is(n) {
					refused(t, what, p)
				} else {
					taken(t, what, p)
				}
			}
			for _, r := range []int{-1, 3, math.MinInt, math.MaxInt, 1 << 32} {
				for place := range 2 {
					p := everything()
					p.Funs[f].Code[at(p, f, form.kind)].Args = []int{0, 0}
					p.Funs[f].Code[at(p, f, form.kind)].Args[place] = r
					what := fmt.Sprint("function ", f, ", ", name, ", Args ", place, " ", r)
					if told {
						refused(t, what, p)
					} else {
						taken(t, what, p)
					}
				}
			}
			p := everything()
			p.Funs[f].Code[at(p, f, form.kind)].Args = make([]int, 1000)
			if told {
				refused(t, name, p)
			} else {
				taken(t, name, p)
			}
		}
	}
	for n := range 5 {
		for m := range 6 {
			p := program("main 0 1 0: const 0 1; call 0 f; ret 0\nf 0 4 0: ret 0")
			p.Funs[1].Params, p.Funs[0].Code[1].Args = n, make([]int, m)
			if n == m {
				taken(t, fmt.Sprint(n, m), p)
			} else {
				refused(t, fmt.Sprint(n, m), p)
			}
		}
	}
}

// P13.1: labels: missing, twice, in another function alone.
func TestLabels(t *testing.T) {
	for s, may := range map[string]bool{
		"main 0 1 0: label 1; jump 1":                                                            true,
		"main 0 1 0: jump 1; label 1; jump 1":                                                    true,
		"main 0 1 0: label 1; label 2; jump 1":                                                   true,
		"main 0 1 0: label -1; label 0x7fffffffffffffff; label -0x8000000000000000; jump -1":     true,
		"main 0 1 0: label 1; label 1; jump 1":                                                   false,
		"main 0 1 0: label 1; label 2; label 1; jump 2":                                          false,
		"main 0 1 0: label 1; label 1; ret 0":                                                    false,
		"main 0 1 0: ret 0; label 1; label 1; ret 0":                                             false,
		"main 0 1 0: jump 1":                                                                     false,
		"main 0 1 0: jump 0":                                                                     false,
		"main 0 1 0: label 0; jump 0":                                                            true,
		"main 0 1 0: label 1; jump 2":                                                            false,
		"main 0 1 0: ret 0; jump 2; ret 0":                                                       false,
		"main 0 1 0: const 0 1; branch 0 0 eq 1; ret 0":                                          false,
		"main 0 1 0: const 0 1; branch 0 0 eq 1; label 1; ret 0":                                 true,
		"main 0 1 0: jump 1\nf 0 0 0: label 1; jump 1":                                           false,
		"main 0 1 0: label 1; jump 1\nf 0 0 0: jump 1":                                           false,
		"main 0 1 0: label 1; jump 1\nf 0 0 0: label 1; jump 1":                                  true,
		"main 0 1 0: label 1; jump 1\nf 0 0 0: label 2; jump 2\ng 0 0 0: label 1; jump 2":        false,
		"main 0 1 0: label 1; jump 1\nf 0 0 0: label 1; label 2; jump 2\ng 0 1 0: ret 0":         true,
		"main 0 1 0: label 4294967297; jump 1":                                                   false,
		"main 0 1 0: label 4294967297; label 1; jump 1":                                          true,
		"main 0 1 0: label 1; jump 1\nf 0 1 0: const 0 1; branch 0 0 ne 1; ret 0":                false,
		"main 0 1 0: label 1; jump 1\nf 0 1 0: const 0 1; branch 0 0 ne 1; label 1; ret 0":       true,
		"main 0 1 0: label 1; jump 1\nf 0 1 0: ret 0; label 5; ret 0; ret 0; label 5; tail main": false,
	} {
		if p := program(s); may {
			taken(t, s, p)
		} else {
			refused(t, s, p)
		}
	}
}

// A program without registers, functions without any.
func TestNoRegisters(t *testing.T) {
	taken(t, "no registers", program("main 0 0 0: label 1; jump 1"))
	refused(t, "no registers", program("main 0 0 0: ret 0"))
	refused(t, "no registers", program("main 0 0 0: const 0 1; label 1; jump 1"))
	taken(t, "no registers", program("main 0 0 0: tail f\nf 0 0 0: tail main"))
}

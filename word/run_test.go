package word

import (
	"fmt"
	"math"
	"strings"
	"testing"

	"smithy/api"
	"smithy/world"
)

// answers holds what an instruction that sets register 2 makes of the registers 0 and 1: the whole word, by way of a function that is
// entered with them.
func answers(t *testing.T, s *Process, a, b, want uint64, what string) {
	t.Helper()
	if e := s.Enter("f", []uint64{a, b}); e != api.OK {
		t.Fatal(e)
	}
	if st := s.Run(2); st != api.WordDone || s.Answer() != want || s.Code() != 0 {
		t.Errorf("%s of %#x and %#x: %d, %#x, wanted %#x", what, a, b, st, s.Answer(), want)
	}
}

// ofTwo is a process whose function f does an instruction on its parameters, and answers register 2.
func ofTwo(t *testing.T, s string) *Process {
	t.Helper()
	p := program("main 0 1 0: const 0 1; ret 0\nf 2 3 0: " + s + "; ret 2")
	out, _ := process(t, p, true)
	return out
}

func words() []uint64 {
	out := []uint64{0, 1, 2, 3, 5, 7, 10, 31, 32, 33, 62, 63, 64, 65, 66, 127, 128, 255, 256, 1000, math.MaxInt32, 1 << 31, math.MaxUint32, 1 << 32, 1<<32 + 1, 1<<62 + 12345,
		math.MaxInt64, 1 << 63, 1<<63 + 1, math.MaxUint64, math.MaxUint64 - 1, math.MaxUint64 - 63, 0xaaaaaaaaaaaaaaaa, 0x5555555555555555, 0xfedcba9876543210, 0x8000000000000040}
	return out
}

// P13.4: all that is made of two words.
func TestOfWords(t *testing.T) {
	for _, name := range []string{"add", "sub", "mul", "high", "div", "rem", "and", "or", "xor", "shl", "shr", "sar"} {
		s := ofTwo(t, name+" 2 0 1")
		for _, a := range words() {
			for _, b := range words() {
				want, fine := words2(forms[name].kind, a, b)
				if fine {
					answers(t, s, a, b, want, name)
				}
			}
		}
	}
	s := ofTwo(t, "move 2 0")
	for _, a := range words() {
		answers(t, s, a, 5, a, "move")
	}
	for name, rows := range map[string][][3]uint64{
		"add":  {{math.MaxUint64, 1, 0}, {1 << 63, 1 << 63, 0}, {5, 7, 12}},
		"sub":  {{0, 1, math.MaxUint64}, {5, 7, math.MaxUint64 - 1}},
		"mul":  {{1 << 32, 1 << 32, 0}, {math.MaxUint64, math.MaxUint64, 1}, {6, 7, 42}},
		"high": {{1 << 32, 1 << 32, 1}, {math.MaxUint64, math.MaxUint64, math.MaxUint64 - 1}, {math.MaxUint64, 2, 1}, {6, 7, 0}},
		"div":  {{math.MaxUint64, 2, math.MaxInt64}, {1 << 63, math.MaxUint64, 0}, {7, 2, 3}},
		"rem":  {{math.MaxUint64, 10, 5}, {1 << 63, math.MaxUint64, 1 << 63}, {7, 2, 1}},
		"and":  {{12, 10, 8}}, "or": {{12, 10, 14}}, "xor": {{12, 10, 6}},
		"shl": {{1, 63, 1 << 63}, {1, 64, 1}, {3, 65, 6}, {1, math.MaxUint64, 1 << 63}},
		"shr": {{1 << 63, 63, 1}, {1 << 63, 64, 1 << 63}, {math.MaxUint64, 1, math.MaxInt64}},
		"sar": {{1 << 63, 63, math.MaxUint64}, {1 << 63, 64, 1 << 63}, {1 << 63, 1, 3 << 62}, {math.MaxInt64, 62, 1}},
	} {
		s := ofTwo(t, name+" 2 0 1")
		for _, r := range rows {
			answers(t, s, r[0], r[1], r[2], name)
		}
	}
	for _, name := range []string{"div", "rem"} {
		s := ofTwo(t, name+" 2 0 1")
		for _, a := range words() {
			n := s.Steps()
			s.Enter("f", []uint64{a, 0})
			if st := s.Run(5); st != api.Stuck || s.Steps() != n || s.Answer() != 0 {
				t.Error(name, "by 0:", st, s.Answer())
			}
		}
	}
}

// The register that is set may be one of those that are read.
func TestSameRegister(t *testing.T) {
	exits(t, single("const 0 5; add 0 0 0; ret 0"), 10, 3)
	exits(t, single("const 0 5; const 1 3; sub 1 0 1; ret 1"), 2, 4)
	exits(t, single("const 0 5; const 1 3; sub 0 0 1; ret 0"), 2, 4)
	exits(t, single("data 0 0; load 0 0 1 1; ret 0"), 2, 3)
	exits(t, single("const 0 9; move 0 0; ret 0"), 9, 3)
	exits(t, single("const 0 9; const 0 8; ret 0"), 8, 3)
}

// P13.4: the conditions, of WordSet and of WordBranch.
func TestConditions(t *testing.T) {
	for cond := api.CondEq; cond <= api.CondLeu; cond++ {
		set := ofTwo(t, fmt.Sprintf("set 2 0 1 %d", cond))
		branch, _ := process(t, program(fmt.Sprintf("main 0 1 0: const 0 1; ret 0\nf 2 3 0: branch 0 1 %d 7; const 2 10; ret 2; label 7; const 2 20; ret 2", cond)), false)
		for _, a := range words() {
			for _, b := range words() {
				want := uint64(0)
				if condition(cond, a, b) {
					want = 1
				}
				answers(t, set, a, b, want, "set "+conds[cond])
				branch.Enter("f", []uint64{a, b})
				if st := branch.Run(3); st != api.WordDone || branch.Answer() != 10+10*want {
					t.Errorf("branch %s of %#x, %#x: %d, %d", conds[cond], a, b, st, branch.Answer())
				}
			}
		}
	}
	for _, r := range []struct {
		cond string
		a, b uint64
		want uint64
	}{{"eq", 3, 3, 1}, {"eq", 3, 4, 0}, {"ne", 3, 3, 0}, {"ne", 3, 4, 1}, {"lt", math.MaxUint64, 0, 1}, {"lt", 0, math.MaxUint64, 0}, {"lt", 3, 3, 0}, {"le", 3, 3, 1},
		{"le", 1 << 63, math.MaxInt64, 1}, {"ltu", math.MaxUint64, 0, 0}, {"ltu", 0, math.MaxUint64, 1}, {"ltu", 3, 3, 0}, {"leu", 3, 3, 1}, {"leu", 1 << 63, math.MaxInt64, 0}} {
		answers(t, ofTwo(t, "set 2 0 1 "+r.cond), r.a, r.b, r.want, r.cond)
	}
}

func someReals() []uint64 {
	var out []uint64
	for _, r := range []float64{0, 1, 0.5, 1.5, 2, 3, 0.1, 1e300, 1e-300, 1e308, math.MaxFloat64, math.SmallestNonzeroFloat64, 4.4e-308, 1 << 53, 1<<53 + 2, math.Pi, math.Inf(1), 1e16, 123456.789} {
		out = append(out, math.Float64bits(r), math.Float64bits(-r), math.Float64bits(math.Copysign(r, -1)))
	}
	return append(out, 0x7ff8000000000000, 0xfff8000000000000, 0x7ff0000000000001, 0xfff0000000000001, 0x7fffffffffffffff, 0x7ff8000000000001, 1, 42, 1<<63+1, 0x000fffffffffffff, 0x0010000000000000, 0x8010000000000000)
}

// P13.4, R5: reals.
func TestReals(t *testing.T) {
	for real := api.RealAdd; real <= api.RealEq; real++ {
		s := ofTwo(t, fmt.Sprintf("real 2 0 1 %d", real))
		for _, a := range someReals() {
			for _, b := range someReals() {
				answers(t, s, a, b, real2(real, a, b), reals[real])
			}
		}
	}
	s := ofTwo(t, "real 2 0 1 int")
	for _, a := range append(words(), 1<<53+1, 1<<53+3, 1<<54+2, 1<<54+6, 1<<62+1<<9, 1<<62+3<<9, 1<<62+1<<9+1, wordOf(-1<<53-1), wordOf(-1<<53-3)) {
		for _, b := range []uint64{0, 77, 0x7ff8000000000000} {
			answers(t, s, a, b, real2(api.RealInt, a, b), "int")
		}
	}
	bits := math.Float64bits
	const nan = 0x7ff8000000000000
	inf := bits(math.Inf(1))
	for _, r := range []struct {
		real       string
		a, b, want uint64
	}{
		{"add", bits(1.5), bits(2), bits(3.5)}, {"sub", bits(1.5), bits(2), bits(-0.5)}, {"mul", bits(1.5), bits(2), bits(3)}, {"div", bits(3), bits(2), bits(1.5)},
		{"add", bits(0.1), bits(0.2), 0x3fd3333333333334}, {"div", bits(1), 0, inf}, {"div", bits(1), 1 << 63, inf | 1<<63}, {"div", 0, 0, nan}, {"sub", inf, inf, nan},
		{"add", 0xfff8000000000123, bits(1), nan}, {"add", bits(1), 0x7ff0000000000001, nan}, {"mul", inf, 0, nan}, {"sub", 0, 0, 0}, {"sub", 1 << 63, 0, 1 << 63}, {"add", 1 << 63, 0, 0},
		{"mul", 1 << 63, bits(5), 1 << 63}, {"lt", bits(1), bits(2), 1}, {"lt", bits(2), bits(1), 0}, {"lt", 1 << 63, 0, 0}, {"le", 0, 1 << 63, 1}, {"eq", 0, 1 << 63, 1},
		{"lt", nan, bits(1), 0}, {"lt", bits(1), nan, 0}, {"le", nan, nan, 0}, {"eq", nan, nan, 0}, {"le", bits(2), bits(2), 1}, {"eq", bits(2), bits(2), 1}, {"lt", bits(-2), bits(1), 1},
		{"int", 0, 0, 0}, {"int", 1, 0, bits(1)}, {"int", math.MaxUint64, 0, bits(-1)}, {"int", 1 << 63, 0, 0xc3e0000000000000}, {"int", math.MaxInt64, 0, 0x43e0000000000000},
		{"int", 1<<53 + 1, 0, bits(1 << 53)}, {"int", 1<<53 + 3, 0, bits(1<<53 + 4)},
	} {
		answers(t, ofTwo(t, "real 2 0 1 "+r.real), r.a, r.b, r.want, r.real)
	}
}

// P13.4: constants, the address of data and functions, the heap's size.
func TestGiven(t *testing.T) {
	for _, n := range []int64{0, 1, -1, math.MinInt64, math.MaxInt64, 300, 1 << 40} {
		answers(t, ofTwo(t, fmt.Sprint("const 2 ", n)), 3, 4, uint64(n), "const")
	}
	answers(t, ofTwo(t, "func 2 0"), 3, 4, api.CodeBase, "func")
	answers(t, ofTwo(t, "func 2 1"), 3, 4, api.CodeBase+16, "func")
	answers(t, ofTwo(t, "heap 2"), 3, 4, api.MinHeap, "heap")
	answers(t, ofTwo(t, "data 2 0"), 3, 4, api.DataBase, "data")
	for _, heap := range []uint64{api.MinHeap, api.MinHeap + 1, 1 << 30, api.MaxHeap} {
		s, e := New(program("main 0 1 0: heap 0; ret 0\nf 0 3 0: heap 2; ret 2"), heap, true, world.New(api.World{}))
		if e != api.OK || s.Enter("f", nil) != api.OK || s.Run(2) != api.WordDone || s.Answer() != heap {
			t.Error(heap, e, s.Answer())
		}
	}
	p := program("main 0 1 0: data 0 0; ret 0\nf 0 3 0: data 2 12; ret 2")
	p.Data, p.Zero = make([]byte, 5), 7
	s, _ := process(t, p, true)
	if s.Enter("f", nil) != api.OK || s.Run(2) != api.WordDone || s.Answer() != api.DataBase+12 {
		t.Error("data", s.Answer())
	}
}

// P13.4: slots: each is one of its own, and of its call.
func TestSlots(t *testing.T) {
	exits(t, single("const 0 5; put 0 0; const 0 6; put 0 1; get 1 0; get 2 1; sub 3 2 1; ret 3"), 1, 8)
	exits(t, single("const 0 5; put 0 0; const 0 6; put 0 0; get 1 0; ret 1"), 6, 6)
	sticks(t, single("const 0 5; put 0 0; get 1 1; ret 1"), 2)
	exits(t, program("main 0 2 1: const 0 5; put 0 0; call 1 f; get 0 0; ret 0\nf 0 1 1: const 0 9; put 0 0; ret 0"), 5, 8)
	sticks(t, program("main 0 2 1: const 0 5; put 0 0; call 1 f; ret 1\nf 0 1 1: get 0 0; ret 0"), 3)
	sticks(t, program("main 0 2 1: const 0 5; put 0 0; tail f\nf 0 1 1: get 0 0; ret 0"), 3)
	sticks(t, program("main 0 2 1: const 0 5; call 1 f; call 1 g; ret 1\nf 0 1 1: const 0 7; put 0 0; ret 0\ng 0 1 1: get 0 0; ret 0"), 6)
	p := program("main 0 2 0x100000: const 0 5; const 1 6; put 0 0; put 1 1048575; get 0 1048575; get 1 0; sub 0 0 1; ret 0")
	exits(t, p, 1, 8)
}

// P13.4: what isn't set can't be read: each register of each kind of instruction.
func TestUnset(t *testing.T) {
	for name, f := range forms {
		if name == "label" {
			continue
		}
		for but := range 6 {
			w := api.Word{Kind: f.kind, D: 0, A: 1, B: 2, L: 1, F: 1, Cond: 1, Real: 1, Size: 8, Imm: 1}
			if strings.Contains(f.fields, "l") {
				w.Args = []int{3, 4, 5}
			}
			need := reading(w)[cell{n: but}]
			p := program("main 0 6 2: const 0 1\nf 3 3 0: label 1; jump 1")
			p.Zero = 1
			var l []api.Word
			l = append(l, code1("const 0 1; put 0 1")...)
			for i := 1; i < 6; i++ {
				if i != but {
					l = append(l, api.Word{Kind: api.WordConst, D: i, Imm: 1})
				}
			}
			if w.Kind == api.WordLoad || w.Kind == api.WordStore {
				l = append(l, api.Word{Kind: api.WordData, D: 1}, api.Word{Kind: api.WordConst, D: 1, Imm: api.HeapBase})
			}
			if w.Kind == api.WordApply || w.Kind == api.WordGo {
				l = append(l, api.Word{Kind: api.WordFunc, D: 1, F: 1})
			}
			if but == 1 && (w.Kind == api.WordLoad || w.Kind == api.WordStore || w.Kind == api.WordApply || w.Kind == api.WordGo) {
				continue
			}
			n := len(l)
			p.Funs[0].Code = append(append(l, w), code1("label 1; jump 1")...)
			if need {
				sticks(t, p, n)
				continue
			}
			both(func(strict bool) {
				s, _ := process(t, p, strict)
				if st := s.Run(n + 1); st == api.Stuck || s.Steps() != n+1 {
					t.Errorf("%s without %d: %d, %d steps", name, but, st, s.Steps())
				}
			})
		}
	}
	sticks(t, program("main 0 2 0: load 1 0 0 8; ret 1"), 0)
	sticks(t, program("main 0 2 0: const 1 1; store 0 1 0 8; ret 1"), 1)
	sticks(t, program("main 0 2 0: apply 1 0; ret 1"), 0)
	sticks(t, program("main 0 2 0: go 0"), 0)
	sticks(t, program("main 0 2 0: const 0 1; branch 0 1 eq 1; label 1; ret 0"), 1)
	sticks(t, program("main 0 2 0: const 1 1; branch 0 1 ne 1; label 1; ret 0"), 1)
	sticks(t, program("main 0 2 1: get 0 0; ret 0"), 0)
	// a register beyond those that were set, and one far away
	for _, r := range []int{1, 31, 32, 33, 63, 64, 2047, 2048, 2049, 65535} {
		p := program(fmt.Sprintf("main 0 65536 65537: const 0 7; move %d 0; put %d %d; const 0 1; const 1 2; get 2 %d; move 2 %d; ret 2", r, r, r, r, r))
		want := 7
		if r == 1 {
			want = 2
		}
		exits(t, p, want, 8)
		for _, u := range []int{2, 30, 34, 62, 65, 2046, 2050, 65534} {
			sticks(t, program(fmt.Sprintf("main 0 65536 65537: const 0 7; move %d 0; ret %d", r, u)), 2)
			sticks(t, program(fmt.Sprintf("main 0 65536 65537: const 0 7; put 0 %d; get 0 %d; ret 0", r, u)), 2)
		}
	}
}

// P13.4: jumps, labels, fuel.
func TestFuel(t *testing.T) {
	p := single("label 1; label 2; const 0 1; label 3; label 4; jump 5; label 6; ret 0; label 5; label 7; branch 0 0 eq 6; label 8; ret 1")
	exits(t, p, 1, 4)
	both(func(strict bool) {
		for _, fuel := range []int{0, -1, math.MinInt} {
			s, _ := process(t, p, strict)
			if st := s.Run(fuel); st != api.Running || s.Steps() != 0 {
				t.Error(fuel, st, s.Steps())
			}
		}
		s, _ := process(t, p, strict)
		if st := s.Run(math.MaxInt); st != api.Exited || s.Steps() != 4 || s.Code() != 1 {
			t.Error(st, s.Steps())
		}
		for _, fuel := range []int{0, -1, 1, 5, math.MaxInt} {
			if st := s.Run(fuel); st != api.Exited || s.Steps() != 4 || s.Code() != 1 {
				t.Error(fuel, st, s.Steps())
			}
		}
		s, _ = process(t, single("const 0 1; label 1; branch 0 0 ne 1; jump 1"), strict)
		if st := s.Run(1001); st != api.Running || s.Steps() != 1001 || s.Code() != 0 || s.Answer() != 0 {
			t.Error(st, s.Steps())
		}
		s, _ = process(t, single("ret 0"), strict)
		for _, fuel := range []int{0, -5} {
			if st := s.Run(fuel); st != api.Running {
				t.Error(st)
			}
		}
		if st := s.Run(1); st != api.Stuck || s.Steps() != 0 {
			t.Error(st)
		}
		for _, fuel := range []int{0, -1, 3} {
			if st := s.Run(fuel); st != api.Stuck || s.Steps() != 0 {
				t.Error(st)
			}
		}
	})
	exits(t, single("const 0 3; const 1 1; const 2 0; label 1; sub 0 0 1; branch 2 0 ltu 1; ret 0"), 0, 3+3*2+1)
	exits(t, single("const 0 3; jump 1; label 2; ret 0; label 1; jump 2"), 3, 4)
	exits(t, single("const 0 3; branch 0 0 ne 1; ret 0; label 1; ret 1"), 3, 3)
}

// P13.4: codes are the lowest 8 bits, of what is answered and of the system call 60.
func TestCodes(t *testing.T) {
	for _, n := range []int64{0, 1, 127, 128, 255, 256, 257, 300, -1, -2, -256, math.MinInt64, math.MaxInt64, 1 << 32} {
		exits(t, single(fmt.Sprintf("const 0 %d; ret 0", n)), int(uint8(n)), 2)
		exits(t, single(fmt.Sprintf("const 0 %d; sys 0 60 0; ret 1", n)), int(uint8(n)), 2)
		exits(t, program(fmt.Sprintf("main 0 2 0: const 0 %d; call 1 f 0; ret 0\nf 1 2 0: sys 0 60 0; ret 1", n)), int(uint8(n)), 3)
	}
	exits(t, single("sys 0 60; ret 0"), 0, 1)
	exits(t, single("const 0 3; const 1 4; sys 2 60 0 1; ret 0"), 3, 3)
	exits(t, single("const 0 3; const 1 4; sys 2 60 1 0 0; ret 0"), 4, 3)
	sticks(t, single("sys 0 60 0; ret 0"), 0)
	sticks(t, single("const 0 3; sys 0 60 0 1; ret 0"), 1)
}

// P13.4: Answer, Code and Steps however it stands.
func TestStandings(t *testing.T) {
	both(func(strict bool) {
		p := program("main 0 1 0: const 0 300; ret 0\nf 1 2 0: const 1 1; add 0 0 1; ret 0\nsys 0 1 0: const 0 511; sys 0 60 0; ret 0\nstuck 0 1 0: const 0 9; load 0 0 0 1; ret 0")
		s, _ := process(t, p, strict)
		stands := func(status, code int, answer uint64, steps int) {
			t.Helper()
			if st := s.Run(0); st != status || s.Code() != code || s.Answer() != answer || s.Steps() != steps {
				t.Errorf("%d, code %d, answer %d, %d steps; wanted %d, %d, %d, %d", st, s.Code(), s.Answer(), s.Steps(), status, code, answer, steps)
			}
		}
		stands(api.Running, 0, 0, 0)
		s.Run(1)
		stands(api.Running, 0, 0, 1)
		s.Run(10)
		stands(api.Exited, 44, 0, 2)
		s.Enter("f", []uint64{math.MaxUint64})
		stands(api.Running, 0, 0, 2)
		s.Run(2)
		stands(api.Running, 0, 0, 4)
		s.Run(2)
		stands(api.WordDone, 0, 0, 5)
		s.Enter("f", []uint64{999})
		s.Run(3)
		stands(api.WordDone, 0, 1000, 8)
		s.Run(3)
		stands(api.WordDone, 0, 1000, 8)
		s.Enter("sys", nil)
		stands(api.Running, 0, 0, 8)
		s.Run(9)
		stands(api.Exited, 255, 0, 10)
		s.Enter("stuck", nil)
		stands(api.Running, 0, 0, 10)
		s.Run(9)
		stands(api.Stuck, 0, 0, 11)
		s.Enter("main", nil)
		stands(api.Running, 0, 0, 11)
		s.Run(9)
		stands(api.WordDone, 0, 300, 13)
		s.Enter("f", []uint64{1})
		s.Run(1)
		s.Enter("f", []uint64{5})
		s.Run(9)
		stands(api.WordDone, 0, 6, 17)
	})
}

// P13.4: loads and stores of each size, at the edges of data and heap, across them, and where addresses go round.
func TestMemory(t *testing.T) {
	p := program("main 0 1 0: const 0 1; ret 0\nl1 1 2 0: load 1 0 0 1; ret 1\nl4 1 2 0: load 1 0 0 4; ret 1\nl8 1 2 0: load 1 0 0 8; ret 1\n" +
		"s1 2 2 0: store 0 1 0 1; ret 1\ns4 2 2 0: store 0 1 0 4; ret 1\ns8 2 2 0: store 0 1 0 8; ret 1")
	p.Data, p.Zero = []byte{1, 2, 3, 4, 5, 6, 7, 8, 9, 10, 11}, 6
	for _, heap := range []uint64{api.MinHeap, api.MinHeap + 3, 1<<26 + 5, api.MaxHeap} {
		w := world.New(plainWorld())
		s, e := New(p, heap, true, w)
		if e != api.OK {
			t.Fatal(e)
		}
		o := newOracle(p, heap, true, world.New(plainWorld()))
		var places []uint64
		for _, b := range []uint64{api.DataBase, api.DataBase + 17, api.HeapBase, api.HeapBase + heap, api.HeapBase + 1024, api.HeapBase + heap/2, api.HeapBase + 1<<26, 0, api.CodeBase, api.StackTop} {
			for d := range uint64(20) {
				places = append(places, b+d-10)
			}
		}
		x := uint64(0x1122334455667788)
		for round := range 2 {
			for i, at := range places {
				x = x*6364136223846793005 + 1442695040888963407
				size := []int{1, 4, 8}[(i+round)%3]
				s.Enter(fmt.Sprint("s", size), []uint64{at, x})
				fine := o.store(at, size, x)
				if st := s.Run(2); (st == api.WordDone) != fine || !fine && st != api.Stuck {
					t.Errorf("store of %d bytes at %#x: %d", size, at, st)
				}
			}
			for _, at := range places {
				for _, size := range []int{1, 4, 8} {
					s.Enter(fmt.Sprint("l", size), []uint64{at})
					want, fine := o.load(at, size)
					if st := s.Run(2); (st == api.WordDone) != fine || !fine && st != api.Stuck || s.Answer() != want {
						t.Errorf("load of %d bytes at %#x: %d, %#x, wanted %#x", size, at, st, s.Answer(), want)
					}
					if x, is := s.Load(at, size); x != want || is != fine {
						t.Errorf("Load of %d bytes at %#x: %#x, %v, wanted %#x, %v", size, at, x, is, want, fine)
					}
				}
			}
		}
	}
}

// P13.4: Imm is added to the address, which goes round.
func TestOffsets(t *testing.T) {
	base := uint64(api.DataBase)
	for _, r := range []struct {
		a    uint64
		imm  int64
		want uint64
		fine bool
	}{
		{api.DataBase, 0, 1, true}, {api.DataBase, 7, 8, true}, {api.DataBase, 15, 0, true}, {api.DataBase, 16, 0, false}, {api.DataBase, -1, 0, false}, {api.DataBase + 3, -1, 3, true},
		{api.DataBase + 3, -4, 0, false}, {0, api.DataBase + 2, 3, true}, {math.MaxUint64, api.DataBase + 2, 2, true}, {api.DataBase + 1<<31, math.MinInt32, 1, true},
		{base - math.MaxInt32, math.MaxInt32, 1, true}, {base - math.MaxInt32 - 1, math.MaxInt32, 0, false}, {math.MaxUint64, 0, 0, false}, {math.MaxUint64, 1, 0, false}, {math.MaxUint64, math.MinInt32, 0, false},
		{0, math.MinInt32, 0, false},
	} {
		load := single(fmt.Sprintf("const 0 %d; load 1 0 %d 1; ret 1", r.a, r.imm))
		store := single(fmt.Sprintf("const 0 %d; const 1 0x1234; store 0 1 %d 1; load 1 0 %d 1; ret 1", r.a, r.imm, r.imm))
		if r.fine {
			exits(t, load, int(r.want), 3)
			exits(t, store, 0x34, 5)
		} else {
			sticks(t, load, 1)
			sticks(t, store, 2)
		}
	}
	// a load of fewer bytes has no others, a store of fewer bytes leaves others as they are
	exits(t, single("data 0 0; load 1 0 0 4; const 2 0x04030201; set 3 1 2 eq; ret 3"), 1, 5)
	exits(t, single("data 0 0; load 1 0 1 8; const 2 0x0008070605040302; set 3 1 2 eq; ret 3"), 1, 5)
	exits(t, single("data 0 0; const 1 -1; store 0 1 2 4; load 1 0 0 8; const 2 0x0807ffffffff0201; set 3 1 2 eq; ret 3"), 1, 7)
	exits(t, single("data 0 0; const 1 -2; store 0 1 7 1; load 1 0 0 8; const 2 -0x1f8f9fafbfcfdff; set 3 1 2 eq; ret 3"), 1, 7)
}

// What is stuck has changed nothing: a store across an edge stores no byte.
func TestStuckStores(t *testing.T) {
	for _, size := range []int{4, 8} {
		for d := 1; d < size; d++ {
			sticks(t, single(fmt.Sprintf("data 0 16; const 1 -1; store 0 1 %d %d; ret 0", -d, size)), 2)
			sticks(t, single(fmt.Sprintf("data 0 0; const 1 -1; store 0 1 %d %d; ret 0", -d, size)), 2)
			sticks(t, single(fmt.Sprintf("const 0 %d; const 1 -1; store 0 1 %d %d; ret 0", api.HeapBase+api.MinHeap, -d, size)), 2)
			sticks(t, single(fmt.Sprintf("const 0 %d; const 1 -1; store 0 1 %d %d; ret 0", api.HeapBase, -d, size)), 2)
		}
	}
}

// Memory is as the program has it at first: Data, then bytes of 0; a heap of 0.
func TestAtFirst(t *testing.T) {
	for _, n := range []int{0, 1, 7, 8, 9, 15, 16, 17, 1023, 1024, 1025, 3000} {
		p := program("main 0 1 0: const 0 1; ret 0")
		p.Zero = 13
		for i := range n {
			p.Data = append(p.Data, byte(i*7+1))
		}
		s, _ := process(t, p, true)
		for i := -3; i < n+20; i++ {
			x, is := s.Load(uint64(api.DataBase+i), 1)
			want := uint64(0)
			if i >= 0 && i < n {
				want = uint64(p.Data[i])
			}
			if is != (i >= 0 && i < n+13) || x != want {
				t.Error(n, i, x, is)
			}
		}
		for i := range uint64(api.MinHeap) {
			if x, is := s.Load(api.HeapBase+i, 1); x != 0 || !is {
				t.Error(i, x, is)
			}
		}
	}
	p := program("main 0 1 0: const 0 1; ret 0")
	p.Zero = api.MaxData
	s, _ := process(t, p, true)
	last := uint64(api.DataBase + api.MaxData)
	if !s.Store(last-8, 8, 77) || s.Store(last-7, 8, 1) || s.Store(last, 1, 1) {
		t.Error("the last data")
	}
	if x, is := s.Load(last-8, 8); x != 77 || !is {
		t.Error(x, is)
	}
}

package word

import (
	"fmt"
	"math"
	"testing"

	"smithy/api"
)

// P13.4: calls: parameters, what is answered, registers of each call of its own.
func TestCalls(t *testing.T) {
	const weigh = "\nweigh 4 8 0: const 4 3; shl 1 1 4; add 0 0 1; const 4 4; shl 2 2 4; add 0 0 2; const 4 6; shl 3 3 4; add 0 0 3; ret 0"
	exits(t, program("main 0 8 0: const 0 1; const 1 2; const 2 3; const 3 1; call 5 weigh 0 1 2 3; ret 5"+weigh), 1+2*8+3*16+64, 4+1+10+1)
	exits(t, program("main 0 8 0: const 0 1; const 1 2; const 2 3; const 3 1; call 5 weigh 3 2 1 0; ret 5"+weigh), 1+3*8+2*16+64, 4+1+10+1)
	exits(t, program("main 0 8 0: const 0 1; const 1 2; const 2 3; const 3 1; call 5 weigh 1 1 1 1; ret 5"+weigh), (2+2*8+2*16+2*64)%256, 4+1+10+1)
	exits(t, program("main 0 8 0: const 0 1; const 1 2; const 2 3; const 3 1; func 6 weigh; apply 5 6 3 2 1 0; ret 5"+weigh), 1+3*8+2*16+64, 4+2+10+1)
	exits(t, program("main 0 8 0: const 0 1; const 1 2; const 2 3; const 3 1; tail weigh 3 2 1 0"+weigh), 1+3*8+2*16+64, 4+1+10)
	exits(t, program("main 0 8 0: const 0 1; const 1 2; const 2 3; const 3 1; func 6 weigh; go 6 3 2 1 0"+weigh), 1+3*8+2*16+64, 4+2+10)
	// parameters may be given each other's places
	exits(t, program("main 0 2 0: const 0 9; const 1 4; tail f 0 1\nf 2 3 0: const 2 5; branch 0 2 lt 1; tail f 1 0; label 1; sub 0 1 0; ret 0"), 5, 2+1+3+2+2)
	// one's own registers are not another's
	sticks(t, program("main 0 4 0: const 0 1; const 1 2; call 0 f 0; ret 0\nf 1 4 0: ret 1"), 3)
	sticks(t, program("main 0 4 0: const 0 1; const 1 2; tail f 0\nf 1 4 0: ret 1"), 3)
	sticks(t, program("main 0 4 0: call 0 f; ret 1\nf 0 4 0: const 1 1; ret 1"), 3)
	// a call within a call
	exits(t, program("main 0 1 0: const 0 3; call 0 f 0; ret 0\nf 1 2 1: const 1 1; put 0 0; branch 0 1 lt 1; sub 0 0 1; call 1 f 0; get 0 0; add 0 0 1; ret 0; label 1; ret 0"), 6, 2+3*8+4+1)
	// a function that answers its own address
	exits(t, program("main 0 1 0: func 0 f; apply 0 0; apply 0 0; func 0 main; const 0 7; ret 0\nf 0 1 0: func 0 f; ret 0"), 7, 10)
}

// P13.4, P13.6: behind a call of a strict process no register is set but what it answered; slots stay.
func TestStrictProcess(t *testing.T) {
	const f = "\nf 0 1 0: const 0 7; ret 0"
	for _, call := range []string{"call 1 f", "func 1 f; apply 1 1"} {
		n := 1 + len(code1(call, "main", "f"))
		p := program("main 0 80 2: const 0 5; " + call + "; ret 0" + f)
		sticksOne(t, p, true, n+2)
		s, _ := process(t, p, false)
		if s.Run(n+3) != api.Exited || s.Code() != 5 {
			t.Error(s.Code())
		}
		exits(t, program("main 0 80 2: const 0 5; "+call+"; ret 1"+f), 7, n+3)
		exits(t, program("main 0 80 2: const 0 5; put 0 1; "+call+"; get 0 1; ret 0"+f), 5, n+5)
		for _, r := range []int{2, 31, 32, 63, 64, 79} {
			p := program(fmt.Sprintf("main 0 80 2: const %d 5; "+call+"; ret %d", r, r) + f)
			sticksOne(t, p, true, n+2)
			s, _ := process(t, p, false)
			if s.Run(n+3) != api.Exited || s.Code() != 5 {
				t.Error(s.Code())
			}
		}
		for _, r := range []int{0, 31, 32, 63, 64, 2047, 2048, 2049, 65535} {
			p := program(fmt.Sprintf("main 0 65536 2: const %d 5; "+call+"; ret %d", r, r) + f)
			if r != 1 {
				sticksOne(t, p, true, n+2)
			}
			exits(t, program(fmt.Sprintf("main 0 65536 65536: const %d 5; put %d %d; "+call+"; get %d %d; ret %d", r, r, r, r, r, r)+f), 5, n+5)
		}
	}
	// parameters are registers, too
	p := program("main 0 1 0: const 0 3; call 0 g 0; ret 0\ng 1 2 0: call 1 f; ret 0" + f)
	sticksOne(t, p, true, 5)
	exits(t, program("main 0 1 0: const 0 3; call 0 g 0; ret 0\ng 1 2 0: call 0 f; ret 0"+f), 7, 7)
	// a call whose answer goes nowhere else, and its arguments
	exits(t, program("main 0 3 0: const 0 3; const 1 4; call 0 g 1 0; call 0 g 0 0; ret 0\ng 2 2 0: sub 0 0 1; ret 0"), 0, 9)
}

// P13.4: applied addresses that are none, or have other parameters.
func TestApplied(t *testing.T) {
	funs := "\nf0 0 4 0: const 0 9; ret 0\nf1 1 4 0: ret 0\nf2 2 4 0: ret 1\nf3 3 4 0: ret 2\nf4 4 4 0: ret 3"
	for params := range 5 {
		for args := range 5 {
			list := " 1 2 3 4"[:2*args]
			apply := program(fmt.Sprintf("main 0 6 0: func 0 f%d; const 1 1; const 2 2; const 3 3; const 4 4; apply 5 0%s; ret 5", params, list) + funs)
			gone := program(fmt.Sprintf("main 0 6 0: func 0 f%d; const 1 1; const 2 2; const 3 3; const 4 4; go 0%s", params, list) + funs)
			want := params
			if params == 0 {
				want = 9
			}
			more := 1
			if params == 0 {
				more = 2
			}
			if params == args {
				exits(t, apply, want, 5+1+more+1)
				exits(t, gone, want, 5+1+more)
			} else {
				sticks(t, apply, 5)
				sticks(t, gone, 5)
			}
		}
	}
	for _, a := range []uint64{0, 1, 15, api.CodeBase - 16, api.CodeBase - 1, api.CodeBase + 1, api.CodeBase + 8, api.CodeBase + 15, api.CodeBase + 17, api.CodeBase + 6*16, api.CodeBase + 6*16 + 1,
		math.MaxUint64, 1 << 63, 1<<63 + api.CodeBase, 1<<32 + api.CodeBase, api.DataBase, api.HeapBase, 1<<60 + api.CodeBase + 16} {
		sticks(t, program(fmt.Sprintf("main 0 2 0: const 0 %d; apply 1 0; ret 1", a)+funs), 1)
		sticks(t, program(fmt.Sprintf("main 0 2 0: const 0 %d; go 0", a)+funs), 1)
	}
	exits(t, program(fmt.Sprintf("main 0 2 0: const 0 %d; apply 1 0; ret 1", api.CodeBase+16)+funs), 9, 5)
	exits(t, program(fmt.Sprintf("main 0 2 0: const 0 %d; go 0", api.CodeBase+16)+funs), 9, 4)
	exits(t, program(fmt.Sprintf("main 0 2 0: const 0 %d; const 1 3; apply 1 0 1 1 1 1; ret 1", api.CodeBase+5*16)+funs), 3, 5)
}

// deep is a program that opens n calls more than the first one, and then does something in the last one.
func deep(n int, last string) api.WordProgram {
	return program(fmt.Sprintf("main 0 2 0: const 0 %d; call 1 f 0; ret 1\nf 1 3 0: const 1 1; sub 0 0 1; const 1 0; branch 0 1 eq 1; call 2 f 0; ret 2; label 1; %s\nseven 0 1 0: const 0 7; ret 0", n, last))
}

// P13.4: just MaxCalls open calls, and one more; tails open none.
func TestManyCalls(t *testing.T) {
	t.Parallel()
	const most = api.MaxCalls - 1
	runs := func(p api.WordProgram, strict bool) *Process {
		s, _ := process(t, p, strict)
		s.Run(1 << 30)
		return s
	}
	both(func(strict bool) {
		for _, r := range []struct {
			n    int
			last string
			code int
			well bool
		}{
			{most, "const 0 5; ret 0", 5, true}, {most + 1, "const 0 5; ret 0", 0, false}, {most, "call 0 seven; ret 0", 0, false}, {most, "func 0 seven; apply 0 0; ret 0", 0, false},
			{most, "tail seven", 7, true}, {most, "func 0 seven; go 0", 7, true}, {most - 1, "call 0 seven; ret 0", 7, true}, {most - 1, "func 0 seven; apply 0 0; ret 0", 7, true},
			{most - 1, "call 0 seven; call 0 seven; ret 0", 7, true},
		} {
			s := runs(deep(r.n, r.last), strict)
			if st := s.Run(0); r.well && (st != api.Exited || s.Code() != r.code) || !r.well && st != api.Stuck {
				t.Errorf("%d, %s, strict %v: %d, code %d", r.n, r.last, strict, st, s.Code())
			}
			if !r.well {
				want := 2 + 5*most - 1 + len(code1(r.last, "main", "f", "seven")) - 2
				if r.n > most {
					want = 2 + 5*most - 1
				}
				if s.Steps() != want {
					t.Errorf("%d, %s: %d steps, wanted %d", r.n, r.last, s.Steps(), want)
				}
				// it can be entered again
				if s.Enter("seven", nil) != api.OK || s.Run(9) != api.WordDone || s.Answer() != 7 {
					t.Error("not entered")
				}
			}
		}
	})
}

// A loop of tails takes no room, nor does one of calls that come back.
func TestLongRuns(t *testing.T) {
	t.Parallel()
	both(func(strict bool) {
		s, _ := process(t, program("main 0 1 0: const 0 3000000; tail f 0\nf 1 3 1: const 1 1; sub 0 0 1; const 1 0; put 0 0; branch 0 1 eq 1; tail f 0; label 1; ret 0"), strict)
		if st := s.Run(1 << 30); st != api.Exited || s.Steps() != 2+6*3000000 || len(s.open) != 0 || cap(s.open) > 8 {
			t.Error(st, s.Steps(), cap(s.open))
		}
		s, _ = process(t, program("main 0 3 1: const 0 2000000; label 1; put 0 0; call 1 f 0; get 0 0; const 1 1; sub 0 0 1; const 1 0; branch 0 1 ne 1; ret 0\nf 1 70 40: const 69 1; put 69 39; put 0 0; ret 0"), strict)
		if st := s.Run(1 << 30); st != api.Exited || s.Steps() != 2+11*2000000 || cap(s.open) > 8 {
			t.Error(st, s.Steps(), cap(s.open))
		}
	})
}

// Calls that set few of very many registers and slots take little room, however many are open.
func TestWideCalls(t *testing.T) {
	t.Parallel()
	both(func(strict bool) {
		s, _ := process(t, program("main 0 1 0: const 0 5; call 0 f 0; ret 0\nf 1 65536 0x100000: put 0 1048575; move 65535 0; call 65534 f 65535; ret 65534"), strict)
		if st := s.Run(1 << 30); st != api.Stuck || s.Steps() != 1+3*(api.MaxCalls-1) {
			t.Error(st, s.Steps())
		}
	})
}

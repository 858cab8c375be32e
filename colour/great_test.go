package colour

import (
	"fmt"
	"math/rand/v2"
	"testing"
	"time"

	"smithy/api"
)

const full = 1 << 16 // instructions of a function, as many as may be

// alone is a program of one function, which another one may be called by.
func alone(l []api.Word, regs, slots int) api.WordProgram {
	four := api.WordFunction{Name: "f", Params: 4, Regs: 9, Code: []api.Word{{Kind: api.WordAdd, D: 8, A: 1, B: 2}, {Kind: api.WordRet, A: 8}}}
	return api.WordProgram{Funs: []api.WordFunction{{Name: "main", Regs: regs, Slots: slots, Code: l}, four}}
}

// many are instructions that set n registers, none of which is a constant.
func many(n int) []api.Word {
	l := []api.Word{{Kind: api.WordConst, D: 0, Imm: 77}, {Kind: api.WordConst, D: 1, Imm: 3}, {Kind: api.WordAdd, D: 0, A: 0, B: 1}, {Kind: api.WordAdd, D: 1, A: 0, B: 1}}
	for i := 2; i < n; i++ {
		l = append(l, api.Word{Kind: api.WordAdd, D: i, A: i - 1, B: i - 2})
	}
	return l
}

// summed is instructions with so many behind them that it is full, which add all of n registers, and end.
func summed(l []api.Word, n int) []api.Word {
	for i := 0; len(l) < full-1; i++ {
		l = append(l, api.Word{Kind: api.WordAdd, D: 0, A: 0, B: i % n})
	}
	return append(l, api.Word{Kind: api.WordRet})
}

// great are functions of as many instructions as may be, by what there is much of.
func great() map[string]func(r *rand.Rand) api.WordProgram {
	branch := func(a, b, l int) api.Word { return api.Word{Kind: api.WordBranch, A: a, B: b, Cond: api.CondLt, L: l} }
	label := func(l int) api.Word { return api.Word{Kind: api.WordLabel, L: l} }
	return map[string]func(r *rand.Rand) api.WordProgram{
		"constants": func(r *rand.Rand) api.WordProgram {
			var l []api.Word
			for i := range full / 2 {
				l = append(l, api.Word{Kind: api.WordConst, D: i, Imm: int64(i)})
			}
			return alone(summed(l, full/2), full/2, 0)
		},
		"live registers": func(r *rand.Rand) api.WordProgram {
			n := full / 3
			l := many(n)
			for len(l) < full-n {
				l = append(l, api.Word{Kind: api.WordAdd + r.IntN(4), D: r.IntN(n), A: r.IntN(n), B: r.IntN(n)})
			}
			return alone(summed(l, n), full, 0)
		},
		"slots": func(r *rand.Rand) api.WordProgram {
			l := many(100)
			for i := 0; len(l) < full/2; i++ {
				l = append(l, api.Word{Kind: api.WordPut, A: i % 100, Imm: int64(full - 1 - i)})
			}
			for i := 0; len(l) < full-200; i++ {
				l = append(l, api.Word{Kind: api.WordGet, D: r.IntN(100), Imm: int64(full - 1 - i)})
			}
			return alone(summed(l, 100), 100, full)
		},
		"a chain of blocks": func(r *rand.Rand) api.WordProgram {
			n := full / 4
			l := many(n)
			for i := 0; len(l) < full-n-2; i++ {
				l = append(l, branch(i%n, i*7%n, i), label(i))
			}
			return alone(summed(l, n), n, 0)
		},
		"ways to one place": func(r *rand.Rand) api.WordProgram {
			n := full / 4
			l := many(n)
			for i := 0; len(l) < full-n-2; i++ {
				l = append(l, branch(i%n, i*7%n, 5))
			}
			return alone(summed(append(l, label(5)), n), n, 0)
		},
		"calls": func(r *rand.Rand) api.WordProgram {
			n := full / 4
			l := many(n)
			for i := 0; len(l) < full-1; i++ {
				l = append(l, api.Word{Kind: api.WordCall, D: i % n, F: 1, Args: []int{i * 3 % n, i * 5 % n, i * 7 % n, i * 11 % n}})
			}
			return alone(append(l, api.Word{Kind: api.WordRet}), n, 0)
		},
		"loops in one another": func(r *rand.Rand) api.WordProgram {
			l := []api.Word{{Kind: api.WordConst, D: 0, Imm: 1}}
			n := full/4 - 1
			for i := range n {
				l = append(l, api.Word{Kind: api.WordConst, D: i + 1, Imm: 2}, label(i))
			}
			for i := n - 1; i >= 0; i-- {
				l = append(l, api.Word{Kind: api.WordSub, D: i + 1, A: i + 1, B: 0}, branch(0, i+1, i))
			}
			return alone(summed(l, n), n+1, 0)
		},
		"loops that end at their tops": func(r *rand.Rand) api.WordProgram {
			n := full / 10
			l := many(n)
			for i := range n {
				l = append(l, label(i), branch(i, (i+1)%n, n+i))
			}
			for i := n - 1; i >= 0; i-- {
				l = append(l, api.Word{Kind: api.WordAdd, D: i, A: i, B: 0}, api.Word{Kind: api.WordJump, L: i}, label(n+i))
			}
			return alone(summed(l, n), n, 0)
		},
		"ways at random": func(r *rand.Rand) api.WordProgram {
			n := full / 8
			l := many(n)
			labels := (full - n - 4) / 3
			for i := range labels {
				l = append(l, label(i), api.Word{Kind: api.WordMul, D: r.IntN(n), A: r.IntN(n), B: r.IntN(n)}, branch(r.IntN(n), r.IntN(n), r.IntN(labels)))
			}
			return alone(summed(l, n), n, 0)
		},
		"what is set on some ways": func(r *rand.Rand) api.WordProgram {
			n, l := full/4, many(1)
			labels := (full - 6) / 5
			for i := range labels {
				l = append(l, label(i), api.Word{Kind: api.WordMul, D: r.IntN(n), A: r.IntN(n), B: r.IntN(n)}, api.Word{Kind: api.WordPut, A: r.IntN(n), Imm: int64(r.IntN(n))},
					api.Word{Kind: api.WordGet, D: r.IntN(n), Imm: int64(r.IntN(n))}, branch(r.IntN(n), r.IntN(n), r.IntN(labels)))
			}
			return alone(summed(l, n), n, n)
		},
		"what is set on one way alone": func(r *rand.Rand) api.WordProgram {
			n := full / 8
			l := []api.Word{{Kind: api.WordHeap, D: 0}, {Kind: api.WordHeap, D: 1}}
			for i := range full / 2 {
				l = append(l, branch(i%2, (i+1)%2, 1))
			}
			l = append(l, many(n)[4:]...)
			return alone(summed(append(l, label(1), branch(0, 1, 2), api.Word{Kind: api.WordRet}, label(2)), n), n, 0)
		},
	}
}

// P19.2, P19.3: as great as may be, in seconds.
func TestGreat(t *testing.T) {
	for name, make := range great() {
		t.Run(name, func(t *testing.T) {
			t.Parallel()
			p := make(rand.New(rand.NewPCG(1, 19)))
			if n := len(p.Funs[0].Code); n > full || n < full-5 {
				t.Fatal(n)
			}
			begun := time.Now()
			q := made(t, p)
			if took := time.Since(begun); took > 20*time.Second {
				t.Error("it took", took)
			}
			holdAlike(t, p, q, call{}, theWorld(), 0, 500000)
		})
	}
}

// P19.3: functions of some sorts, made smaller, are as their great ones, behind each number of steps.
func TestLessGreat(t *testing.T) {
	t.Parallel()
	for n := 1; n < 40; n++ {
		var s string
		for i := range n {
			s += fmt.Sprintf("const %d 2; label %d; add %d %d 0; ", i+1, i, n+1, n+1)
		}
		for i := n - 1; i >= max(n-4, 0); i-- {
			s += fmt.Sprintf("sub %d %d 0; branch 0 %d le %d; ", i+1, i+1, i+1, i)
		}
		p := program(fmt.Sprintf("main 0 %d 0: const 0 1; const %d 7; %s ret %d", n+2, n+1, s, n+1))
		holdAlike(t, p, made(t, p), call{}, theWorld(), 300, 300)
	}
}

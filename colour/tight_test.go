package colour

import (
	"fmt"
	"math/rand/v2"
	"testing"

	"smithy/api"
)

// tight is a program of one function with 16 registers at most, whose blocks are short. It goes on for ever, writes what it has now and
// then, and is stuck nowhere.
func tight(r *rand.Rand) api.WordProgram {
	n := 9 + r.IntN(5)
	one, at, eight := n, n+1, n+2
	l := []api.Word{{Kind: api.WordConst, D: one, Imm: 1}, {Kind: api.WordData, D: at}, {Kind: api.WordConst, D: eight, Imm: 8}}
	for i := range n {
		l = append(l, api.Word{Kind: api.WordConst, D: i, Imm: int64(r.IntN(100))})
		if r.IntN(3) > 0 {
			l = append(l, api.Word{Kind: api.WordAdd, D: i, A: i, B: r.IntN(i + 1)})
		}
	}
	blocks := 4 + r.IntN(30)
	for b := range blocks {
		l = append(l, api.Word{Kind: api.WordLabel, L: b})
		if r.IntN(3) == 0 {
			l = append(l, api.Word{Kind: api.WordAdd + r.IntN(4), D: r.IntN(n), A: r.IntN(n), B: r.IntN(n)})
		}
		if r.IntN(5) == 0 {
			l = append(l, api.Word{Kind: api.WordStore, A: at, B: r.IntN(n), Size: 8}, api.Word{Kind: api.WordSys, D: r.IntN(n), Imm: 1, Args: []int{one, at, eight}})
		}
		l = append(l, api.Word{Kind: api.WordBranch, A: r.IntN(n), B: r.IntN(n), Cond: 1 + r.IntN(6), L: r.IntN(blocks)})
	}
	l = append(l, api.Word{Kind: api.WordJump, L: r.IntN(blocks)})
	return api.WordProgram{Funs: []api.WordFunction{{Name: "main", Regs: n + 3, Code: l}}, Zero: 8}
}

// walk goes from an instruction to the next branch, and tells in how many steps (that one with them). It is none, where it goes on for
// ever, or ends.
func walk(l []api.Word, place map[int]int, at int) (int, int) {
	for steps := 0; steps < 10*len(l); {
		switch w := l[at]; w.Kind {
		case api.WordLabel:
			at++
		case api.WordJump:
			at = place[w.L]
			steps++
		case api.WordBranch:
			return at, steps + 1
		case api.WordRet, api.WordTail, api.WordGo:
			return none, steps
		default:
			at++
			steps++
		}
	}
	return none, 0
}

func placesOf(l []api.Word) map[int]int {
	out := map[int]int{}
	for i, w := range l {
		if w.Kind == api.WordLabel {
			out[w.L] = i
		}
	}
	return out
}

// worst is by how much the steps of what became of a function without calls may be more than k times as many as its own, whichever ways
// its branches go: a branch is one of those of the other one each time. It is at least a thousand, if nothing bounds it.
func worst(f, g api.WordFunction, k int) int {
	type pair struct{ f, g int }
	more, most := map[pair]int{}, 0
	here, there := placesOf(f.Code), placesOf(g.Code)
	todo := []pair{}
	visit := func(f1, g1, more1 int) {
		a, n := walk(f.Code, here, f1)
		b, m := walk(g.Code, there, g1)
		if a == none || b == none {
			return
		}
		p := pair{a, b}
		if was, is := more[p]; !is || more1+m-k*n > was {
			more[p] = more1 + m - k*n
			most = max(most, more[p])
			todo = append(todo, p)
		}
	}
	visit(0, 0, 0)
	for len(todo) > 0 && most < 1000 {
		p := todo[0]
		todo = todo[1:]
		visit(p.f+1, p.g+1, more[p])
		visit(here[f.Code[p.f].L], there[g.Code[p.g].L], more[p])
	}
	return most
}

// P19.3: of short blocks and many values, whichever ways branches go; where values in colours would cost too much they are in slots.
func TestTight(t *testing.T) {
	t.Parallel()
	fat := 0
	for seed := range uint64(2500) {
		p := tight(rand.New(rand.NewPCG(seed, 3)))
		q := made(t, p)
		if n := worst(p.Funs[0], q.Funs[0], 16); n > 20 {
			t.Fatalf("%d steps more: %s became %s", n, shown(p), shown(q))
		}
		x := newPainter(study(p.Funs[0]), 16)
		x.paint()
		if x.laid(); !x.fits {
			fat++
		}
		holdAlike(t, p, q, call{}, theWorld(), 0, 500)
	}
	if fat == 0 {
		t.Error("nothing costs too much")
	}
}

// P19.3: where fewer steps would be allowed than there may be, values that are in colours where blocks meet would cost too much more
// often; then they are in slots there, and five steps for each one are enough.
func TestModest(t *testing.T) {
	t.Parallel()
	for seed := range uint64(1500) {
		p := tight(rand.New(rand.NewPCG(seed, 4)))
		q := copied(p)
		most := 1 + int(seed%12)
		q.Funs[0] = coloured(p.Funs[0], most)
		if Check(q) != api.OK {
			t.Fatal(shown(q))
		}
		if n := worst(p.Funs[0], q.Funs[0], max(most, 5)); n > 20 {
			t.Fatalf("%d for each one, and %d steps more: %s became %s", most, n, shown(p), shown(q))
		}
		holdAlike(t, p, q, call{}, theWorld(), 0, 500)
	}
	programs(80000, 300, func(m *maker, p api.WordProgram) {
		q := copied(p)
		for i, f := range p.Funs {
			q.Funs[i] = coloured(f, 1)
		}
		if Check(q) != api.OK {
			t.Fatal(shown(q))
		}
		holdAlike(t, p, q, call{}, theWorld(), 20, 1000)
	})
}

// P19.3: a call that all values outlive, and whose arguments are in slots, since others are read in what stands ahead of it.
func TestDearCall(t *testing.T) {
	text := "main 0 16 0: const 0 3; "
	for i := range 12 {
		text += fmt.Sprintf("add %d %d 0; ", i+1, i)
	}
	text += "branch 12 11 ne 1; "
	sums := ""
	for i := 4; i < 12; i++ {
		sums += fmt.Sprintf("add 12 12 %d; ", i+1)
	}
	p := program(text + sums + "ret 12; label 1; call 13 f 1 2 3 4; " + sums + "add 12 12 13; ret 12\nf 4 9 0: sub 8 0 3; ret 8")
	g := study(p.Funs[0])
	for _, most := range []int{16, 100} {
		x := newPainter(g, most)
		x.paint()
		if x.laid(); x.fits != (most == 100) {
			t.Error(most, x.fits)
		}
	}
	sum := 39
	for i := 4; i < 11; i++ {
		sum += 3 * (i + 2)
	}
	holdEnds(t, p, (2*sum-9)&255)
}

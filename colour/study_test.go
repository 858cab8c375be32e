package colour

import (
	"math/rand/v2"
	"testing"

	"smithy/api"
	"smithy/word"
)

// naive tells whether what a cell (a register, or a slot behind these) has ahead of an instruction is read on some way, going all ways.
func naive(f api.WordFunction, cell, at int) bool {
	place := map[int]int{}
	for i, w := range f.Code {
		if w.Kind == api.WordLabel {
			place[w.L] = i
		}
	}
	seen, todo := map[int]bool{}, []int{at}
	for len(todo) > 0 {
		i := todo[0]
		todo = todo[1:]
		if seen[i] {
			continue
		}
		seen[i] = true
		w := f.Code[i]
		_, fields := form(w.Kind)
		read, set := false, false
		for _, c := range fields {
			switch c {
			case 'D':
				set = set || w.D == cell
			case 'A':
				read = read || w.A == cell
			case 'B':
				read = read || w.B == cell
			case 'l':
				for _, r := range w.Args {
					read = read || r == cell
				}
			}
		}
		read = read || w.Kind == api.WordGet && f.Regs+int(w.Imm) == cell
		set = set || w.Kind == api.WordPut && f.Regs+int(w.Imm) == cell
		if read {
			return true
		}
		if set {
			continue
		}
		if w.Kind == api.WordJump || w.Kind == api.WordBranch {
			todo = append(todo, place[w.L])
		}
		if !leaves(w.Kind) {
			todo = append(todo, i+1)
		}
	}
	return false
}

// What is live where a block begins, and behind each instruction: what is wanted there, and set on some way there.
func TestLive(t *testing.T) {
	t.Parallel()
	wanted, not := 0, 0
	programs(70000, 150, func(m *maker, p api.WordProgram) {
		for _, f := range p.Funs {
			if len(f.Code) > 200 {
				continue
			}
			g := study(f)
			for _, b := range g.order[1:] {
				for n, c := range g.cells {
					want := naive(f, n, g.blocks[b].from)
					if g.lives.has(c, b) && !want || want && !g.lives.has(c, b) && reaches(g, c, b) {
						t.Fatalf("cell %d where block %d begins: %v: %s", n, b, want, text(p))
					}
				}
				i := g.blocks[b].from + m.n(g.blocks[b].to-g.blocks[b].from)
				for n, c := range g.cells {
					if leaves(f.Code[i].Kind) || f.Code[i].Kind == api.WordBranch || g.sets[i] != c && !reaches(g, c, b) {
						continue
					}
					want := naive(f, n, i+1)
					if g.wanted(c, i, b) != want {
						t.Fatalf("cell %d behind %d: %v: %s", n, i, want, text(p))
					}
					if want {
						wanted++
					} else {
						not++
					}
				}
			}
		}
	})
	if wanted < 10000 || not < 10000 {
		t.Error(wanted, not)
	}
}

// reaches tells whether a cell is set on some way to a block.
func reaches(g *function, c int32, b int) bool {
	seen, todo := map[int]bool{}, append([]int(nil), g.blocks[b].ahead...)
	for n, cell := range g.cells {
		if cell == c && n < g.of.Params {
			return true
		}
	}
	for len(todo) > 0 {
		a := todo[0]
		todo = todo[1:]
		if seen[a] {
			continue
		}
		seen[a] = true
		for i := g.blocks[a].from; i < g.blocks[a].to; i++ {
			if g.sets[i] == c {
				return true
			}
		}
		todo = append(todo, g.blocks[a].ahead...)
	}
	return false
}

// A function that is strict is so by the words of package word, which asks it of whole programs.
func TestStrictFunctions(t *testing.T) {
	t.Parallel()
	count := map[bool]int{}
	hold := func(p api.WordProgram) {
		for _, f := range p.Funs {
			alone := api.WordProgram{Zero: 1000, Funs: []api.WordFunction{{Name: "main", Code: []api.Word{{Kind: api.WordJump}, {Kind: api.WordLabel}, {Kind: api.WordJump}}}}}
			for _, g := range p.Funs[1:] {
				alone.Funs = append(alone.Funs, api.WordFunction{Params: g.Params, Regs: g.Params, Code: alone.Funs[0].Code})
			}
			for i := range p.Funs {
				if &p.Funs[i].Code[0] == &f.Code[0] {
					alone.Funs[i] = f
				}
			}
			if word.Check(alone) != api.OK {
				t.Fatal(text(alone))
			}
			want := word.Strict(alone) && f.Regs <= api.Colours
			if got := study(f).strict(); got != want {
				t.Fatalf("%v, wanted %v: %s", got, want, text(alone))
			}
			count[want]++
		}
	}
	for seed := range uint64(6000) {
		m := &maker{r: rand.New(rand.NewPCG(seed, 77)), few: true}
		p := m.program()
		hold(p)
		if seed%4 == 0 {
			q := made(t, p)
			hold(q)
			f := &q.Funs[m.n(len(q.Funs))]
			f.Code[m.n(len(f.Code)-1)] = api.Word{Kind: api.WordMove, D: m.n(max(1, f.Regs)), A: m.n(max(1, f.Regs))}
			if word.Check(q) == api.OK {
				hold(q)
			}
		}
	}
	if count[true] < 1000 || count[false] < 1000 {
		t.Error(count)
	}
}

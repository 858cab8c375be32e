package colour

import (
	"sort"

	"smithy/api"
	"smithy/rounds"
)

// function is a function with what is known of it. Its cells are the registers and slots that are named where it can be come to, by
// numbers of their own.
type function struct {
	of     api.WordFunction
	blocks []block
	order  []int // of the blocks that are reached
	cells  map[int]int32
	slot   []bool  // by cells: it is a slot
	known  []int32 // the instruction that sets it, if that is the only one, and may be done again; or none
	first  []int32 // by instructions: where the cells that it reads begin in read
	read   []int32
	sets   []int32 // by instructions: the cell that it sets, or none
	called []int32 // by instructions: the first call behind it
	reads  places
	writes places
	lives  lives
	waits  *rounds.Rounds // blocks, by their turns
	unset  bool           // there is a way to where something is set on another way
	bare   bool           // there is a way to where something is read, on which it isn't set
}

// places are instructions of cells: those of cell c lie from from[c] to from[c+1], by rising numbers.
type places struct {
	from []int32
	at   []int32
}

// behind is the first one of a cell that isn't ahead of an instruction, or none.
func (p *places) behind(cell int32, i int) int {
	l := p.at[p.from[cell]:p.from[cell+1]]
	n := sort.Search(len(l), func(n int) bool { return int(l[n]) >= i })
	if n == len(l) {
		return none
	}
	return int(l[n])
}

// study finds out what is known of a function.
func study(f api.WordFunction) *function {
	g := &function{of: f, blocks: cut(f.Code), cells: map[int]int32{}}
	g.order = order(g.blocks)
	join(g.blocks)
	g.name()
	g.place()
	g.know()
	g.live()
	return g
}

// cell is the number of a register or slot (slots are behind the registers).
func (g *function) cell(n int) int32 {
	c, is := g.cells[n]
	if !is {
		c = int32(len(g.cells))
		g.cells[n] = c
		g.slot = append(g.slot, n >= g.of.Regs)
	}
	return c
}

// name tells of each instruction that is reached what it reads and sets.
func (g *function) name() {
	l := g.of.Code
	g.first, g.sets = make([]int32, len(l)+1), make([]int32, len(l))
	for i := range g.of.Params {
		g.cell(i)
	}
	for i := range g.sets {
		g.sets[i] = none
	}
	for b := range g.blocks {
		for i := g.blocks[b].from; i < g.blocks[b].to; i++ {
			if g.blocks[b].reached {
				g.nameWord(&l[i], &g.sets[i])
			}
			g.first[i+1] = int32(len(g.read))
		}
	}
	g.called = make([]int32, len(l)+1)
	g.called[len(l)] = int32(len(l))
	for i := len(l) - 1; i >= 0; i-- {
		g.called[i] = g.called[i+1]
		if calls(l[i].Kind) {
			g.called[i] = int32(i)
		}
	}
}

func (g *function) nameWord(w *api.Word, sets *int32) {
	reads(w, func(register *int) { g.read = append(g.read, g.cell(*register)) })
	switch {
	case w.Kind == api.WordGet:
		g.read = append(g.read, g.cell(g.of.Regs+int(w.Imm)))
	case w.Kind == api.WordPut:
		*sets = g.cell(g.of.Regs + int(w.Imm))
	}
	if answers(w.Kind) {
		*sets = g.cell(w.D)
	}
}

// named are the cells that an instruction reads.
func (g *function) named(i int) []int32 { return g.read[g.first[i]:g.first[i+1]] }

// place tells of each cell where it is read and set.
func (g *function) place() {
	g.reads = gather(len(g.cells), func(tell func(cell int32, i int)) {
		for i := range g.sets {
			for _, c := range g.named(i) {
				tell(c, i)
			}
		}
	})
	g.writes = gather(len(g.cells), func(tell func(cell int32, i int)) {
		for i, c := range g.sets {
			if c != none {
				tell(c, i)
			}
		}
	})
}

// gather lays what is told by its cells.
func gather(cells int, each func(tell func(cell int32, i int))) places {
	p := places{from: make([]int32, cells+1)}
	each(func(cell int32, i int) { p.from[cell+1]++ })
	for c := range cells {
		p.from[c+1] += p.from[c]
	}
	next := make([]int32, cells)
	copy(next, p.from)
	p.at = make([]int32, p.from[cells])
	each(func(cell int32, i int) {
		p.at[next[cell]] = int32(i)
		next[cell]++
	})
	return p
}

// know finds the cells that hold one known thing whenever they are set.
func (g *function) know() {
	g.known = make([]int32, len(g.cells))
	for c := range g.known {
		g.known[c] = none
		l := g.writes.at[g.writes.from[c]:g.writes.from[c+1]]
		if c >= g.of.Params && len(l) == 1 && again(g.of.Code[l[0]].Kind) {
			g.known[c] = l[0]
		}
	}
}

// wanted tells whether what a cell has behind an instruction of a block is read.
func (g *function) wanted(cell int32, i, b int) bool {
	to := g.blocks[b].to
	read, set := g.reads.behind(cell, i+1), g.writes.behind(cell, i+1)
	switch {
	case read != none && read < to && (set == none || read <= set):
		return true
	case set != none && set < to:
		return false
	}
	found := false
	g.blocks[b].ways(func(next int) { found = found || g.lives.has(cell, next) })
	return found
}

// peel makes block 0 a copy of block 1 (which nobody needs any longer, if nothing goes back to it): then something is done ahead of
// what is set behind block 0.
func (g *function) peel() {
	b := &g.blocks[1]
	g.blocks[0].from, g.blocks[0].to, g.blocks[0].falls, g.blocks[0].jumps = b.from, b.to, b.falls, b.jumps
	if len(b.ahead) == 1 {
		b.reached = false
		g.order = append(g.order[:1], g.order[2:]...)
	}
}

// strict tells whether the function is coloured: it has few registers, and none of them is wanted behind a call that doesn't set it.
func (g *function) strict() bool {
	if g.of.Regs > api.Colours || g.bare {
		return false
	}
	for _, b := range g.order {
		for i := g.blocks[b].from; i < g.blocks[b].to; i++ {
			if calls(g.of.Code[i].Kind) && !g.alone(i, b) {
				return false
			}
		}
	}
	return true
}

// alone tells whether no register is wanted behind a call but the one that it sets.
func (g *function) alone(i, b int) bool {
	for r := range g.of.Regs {
		if c, is := g.cells[r]; is && c != g.sets[i] && g.wanted(c, i, b) {
			return false
		}
	}
	return true
}

package word

import "smithy/api"

// Strict tells whether a program reads nothing that isn't set.
func Strict(p api.WordProgram) bool {
	if !mayBe(p) {
		return false
	}
	known := &notes{}
	for _, f := range p.Funs {
		if !strictFunction(f, known) {
			return false
		}
	}
	return true
}

func strictFunction(f api.WordFunction, known *notes) bool {
	g := newGraph(f.Code)
	g.reach()
	for _, b := range g.batches(f, known) {
		if !g.holds(b) {
			return false
		}
	}
	return true
}

// notes are what is known of cells (registers, and, behind these, slots). They are made once for all functions: many may have many
// cells, and name few of them. What was noted at another time than it is now doesn't count.
type notes struct {
	time   int   // it goes on with each function and each block
	set    []int // the time of the last block that sets the cell
	wanted []int // the time of the last function of which a block wants it
	number []int // its number among those that are wanted there
}

// fit makes room for so many cells.
func (n *notes) fit(cells int) {
	if more := cells - len(n.set); more > 0 {
		n.set = append(n.set, make([]int, more)...)
		n.wanted = append(n.wanted, make([]int, more)...)
		n.number = append(n.number, make([]int, more)...)
	}
}

// event is a block that sets a cell, or wants it to be set ahead of the block.
type event struct {
	block int32
	sets  bool
	cell  uint64 // a bit of the batch
}

// batch is up to 64 cells, and what blocks do with them.
type batch struct {
	given  uint64 // parameters
	kept   uint64 // slots: they stay behind a call
	events []event
}

// batches are all cells that some block wants: others are set where they are read.
func (g *graph) batches(f api.WordFunction, known *notes) []batch {
	known.fit(f.Regs + f.Slots)
	known.time++
	begin := known.time
	var out []batch
	count := 0
	g.uses(f, func(b int32, cell int, sets bool) {
		switch {
		case sets:
			known.set[cell] = known.time
			return
		case known.set[cell] == known.time:
			return
		case known.wanted[cell] != begin:
			known.wanted[cell], known.number[cell] = begin, count
			count++
		}
		out = want(out, known.number[cell], cell, f, b)
	}, func() { known.time++ })
	g.uses(f, func(b int32, cell int, sets bool) {
		if n := known.number[cell]; sets && known.wanted[cell] == begin {
			out[n/64].events = append(out[n/64].events, event{block: b, sets: true, cell: 1 << (n % 64)})
		}
	}, func() {})
	return out
}

// want adds that a block wants a cell, which has a number among those that are wanted.
func want(l []batch, n, cell int, f api.WordFunction, b int32) []batch {
	if n/64 == len(l) {
		l = append(l, batch{})
	}
	bit := uint64(1) << (n % 64)
	in := &l[n/64]
	if cell < f.Params {
		in.given |= bit
	}
	if cell >= f.Regs {
		in.kept |= bit
	}
	in.events = append(in.events, event{block: b, cell: bit})
	return l
}

// holds tells whether each cell of a batch is set on every way to where it is wanted: it goes back from there, till it is set, or
// comes to where nothing is.
func (g *graph) holds(b batch) bool {
	var touched []int32
	for _, e := range b.events {
		touched = append(touched, e.block)
		if e.sets {
			g.blocks[e.block].sets |= e.cell
		} else {
			g.add(e.block, e.cell)
		}
	}
	fine := true
	for n, is := g.waits.Next(); fine && is; n, is = g.waits.Next() {
		at := int32(len(g.blocks) - 1 - n)
		touched = append(touched, at)
		wants := g.blocks[at].wants
		fine = at != 0 || wants&^b.given == 0
		g.ahead(at, func(from int32) {
			left := wants &^ g.blocks[from].sets
			fine = fine && (!g.blocks[from].call || left&^b.kept == 0)
			g.add(from, left)
		})
	}
	for _, at := range touched {
		g.blocks[at].sets, g.blocks[at].wants = 0, 0
	}
	return fine
}

// add adds cells to those that a block wants; if these are new ones it has to be looked at. The last blocks are looked at first, as
// most ways go forth.
func (g *graph) add(at int32, cells uint64) {
	if b := &g.blocks[at]; cells&^b.wants != 0 {
		b.wants |= cells
		g.waits.Add(len(g.blocks) - 1 - int(at))
	}
}

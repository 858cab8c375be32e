package colour

import (
	"math/bits"

	"smithy/rounds"
)

// lives tells which cells hold something, where a block begins, that is wanted there or behind it. Only those that some block wants
// have numbers; 64 of these are one row, which has a word for each block.
type lives struct {
	number []int32 // by cells, or none
	cell   []int32 // by numbers
	rows   [][]uint64
}

func (l *lives) has(cell int32, block int) bool {
	n := l.number[cell]
	return n != none && l.rows[n/64][block]>>(n%64)&1 == 1
}

// event is a block that sets a cell, or reads it ahead of setting it.
type event struct {
	block int32
	sets  bool
	bit   uint64
}

// live finds out what is live. It goes back from what is read to where it is set; and from there forth again, as what no way sets
// holds nothing.
func (g *function) live() {
	events := g.events()
	n := len(g.blocks)
	g.waits = rounds.New(len(g.order))
	sets, wants := make([]uint64, n), make([]uint64, n)
	for r, row := range events {
		clear(sets)
		clear(wants)
		has := make([]uint64, n)
		g.back(row, sets, wants)
		g.forth(r, sets, wants, has)
		g.bare = g.bare || wants[0] != has[0]
		g.lives.rows = append(g.lives.rows, has)
		g.judge(r, sets, wants, has)
	}
}

// events are all blocks that read and set cells which some block wants, in their order.
func (g *function) events() [][]event {
	l := &g.lives
	l.number = make([]int32, len(g.cells))
	set := make([]int, len(g.cells)) // the last block that sets it, and 1
	for c := range l.number {
		l.number[c] = none
	}
	var out [][]event
	tell := func(c int32, b int, sets bool) {
		n := l.number[c]
		out[n/64] = append(out[n/64], event{block: int32(b), sets: sets, bit: 1 << (n % 64)})
	}
	g.each(func(c int32, b int) {
		if set[c] == b+1 {
			return
		}
		if l.number[c] == none {
			l.number[c] = int32(len(l.cell))
			l.cell = append(l.cell, c)
			if len(l.cell)%64 == 1 {
				out = append(out, nil)
			}
		}
		tell(c, b, false)
	}, func(c int32, b int) { set[c] = b + 1 })
	g.each(func(int32, int) {}, func(c int32, b int) {
		if l.number[c] != none {
			tell(c, b, true)
		}
	})
	return out
}

// each tells what the blocks that are reached read and set, in its order.
func (g *function) each(read, set func(cell int32, block int)) {
	for b := range g.blocks {
		if !g.blocks[b].reached {
			continue
		}
		for i := g.blocks[b].from; i < g.blocks[b].to; i++ {
			for _, c := range g.named(i) {
				read(c, b)
			}
			if g.sets[i] != none {
				set(g.sets[i], b)
			}
		}
	}
}

// back tells which cells of a row blocks want to be set, and set themselves.
func (g *function) back(row []event, sets, wants []uint64) {
	last := len(g.order) - 1
	add := func(b int, cells uint64) {
		if cells&^wants[b] != 0 {
			wants[b] |= cells
			g.waits.Add(last - g.blocks[b].turn)
		}
	}
	for _, e := range row {
		if e.sets {
			sets[e.block] |= e.bit
		} else {
			add(int(e.block), e.bit)
		}
	}
	for n, is := g.waits.Next(); is; n, is = g.waits.Next() {
		b := g.order[last-n]
		for _, a := range g.blocks[b].ahead {
			add(a, wants[b]&^sets[a])
		}
	}
}

// forth tells which of those that are wanted may be set.
func (g *function) forth(r int, sets, wants, has []uint64) {
	for c := range g.of.Params {
		if n := g.lives.number[c]; n != none && int(n/64) == r {
			has[0] |= 1 << (n % 64) & wants[0]
		}
	}
	for turn, b := range g.order {
		if sets[b]|has[b] != 0 {
			g.waits.Add(turn)
		}
	}
	for n, is := g.waits.Next(); is; n, is = g.waits.Next() {
		b := g.order[n]
		g.blocks[b].ways(func(to int) {
			if cells := (has[b] | sets[b]) & wants[to]; cells&^has[to] != 0 {
				has[to] |= cells
				g.waits.Add(g.blocks[to].turn)
			}
		})
	}
}

// judge tells how many registers of a row are live where blocks begin, and sees to what isn't set on some way, though it may be where
// that leads: it is set behind block 0, and so on all ways.
func (g *function) judge(r int, sets, wants, has []uint64) {
	var registers, unknown, unset uint64
	for i, c := range g.lives.cell[64*r : min(64*r+64, len(g.lives.cell))] {
		if !g.slot[c] {
			registers |= 1 << i
		}
		if g.known[c] == none {
			unknown |= 1 << i
		}
	}
	for _, b := range g.order {
		g.blocks[b].live += bits.OnesCount64(has[b] & registers)
		g.blocks[b].ways(func(to int) { unset |= has[to] & unknown &^ (has[b] | sets[b]) })
	}
	if unset == 0 {
		return
	}
	g.unset = true
	for _, b := range g.order[1:] {
		has[b] |= wants[b] & unset
	}
}

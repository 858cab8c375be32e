package colour

import (
	"math/bits"

	"smithy/api"
)

// laid is the function that is painted: its blocks in their order, and behind them what is done on branches' ways.
func (p *painter) laid() api.WordFunction {
	j := &joiner{painter: p, label: len(p.blocks)}
	aimed := j.aimed()
	for b := range p.blocks {
		if !p.blocks[b].reached {
			continue
		}
		if aimed[b] {
			j.code = append(j.code, api.Word{Kind: api.WordLabel, L: b})
		}
		j.lay(b)
	}
	code := append(j.code, j.stubs...)
	return api.WordFunction{Name: p.of.Name, Params: p.of.Params, Regs: p.colour, Slots: p.slots, Code: code}
}

// joiner lays blocks one behind the other.
type joiner struct {
	*painter
	code  []api.Word
	stubs []api.Word // behind all blocks
	label int        // for the next one of these
}

// aimed tells which blocks are jumped to.
func (j *joiner) aimed() []bool {
	out := make([]bool, len(j.blocks))
	for b := range j.blocks {
		if at := &j.blocks[b]; at.reached {
			if at.jumps != none {
				out[at.jumps] = true
			}
			if at.falls != none && at.falls != b+1 {
				out[at.falls] = true
			}
		}
	}
	return out
}

// lay puts a block, and what is done on its ways.
func (j *joiner) lay(b int) {
	at, body, cost := &j.blocks[b], j.bodies[b], 0
	steps := 0
	for i := at.from; i < at.to; i++ {
		if j.of.Code[i].Kind != api.WordLabel {
			steps++
		}
	}
	var jump []api.Word
	if at.jumps != none {
		jump = append(j.way(b, at.jumps), api.Word{Kind: api.WordJump, L: at.jumps})
	}
	if at.jumps != none && at.falls != none { // a branch
		w := &body[len(body)-1]
		w.L = at.jumps
		if len(jump) > 1 {
			w.L = j.label
			j.stubs = append(j.stubs, api.Word{Kind: api.WordLabel, L: j.label})
			j.stubs = append(j.stubs, jump...)
			j.label++
			cost = len(jump)
		}
		jump = nil
	}
	rest := jump
	if at.falls != none {
		rest = j.way(b, at.falls)
		if at.falls != b+1 {
			rest = append(rest, api.Word{Kind: api.WordJump, L: at.falls})
		}
	}
	j.code = append(append(j.code, body...), rest...)
	j.fits = j.fits && len(body)+max(cost, len(rest)) <= j.most*steps
}

// way is what is done from the end of a block to the beginning of another one.
func (p *painter) way(from, to int) []api.Word {
	p.now, p.out, p.block = p.living(p.ends[from], to), nil, from
	aim := &p.begins[to]
	for c := range p.now {
		if cell := p.now[c].cell; cell != none {
			if t := aim.where(cell); t == none || aim[t].saved {
				p.save(c)
			}
		}
	}
	if p.unset && from == 0 {
		p.settle(to)
	}
	p.shift(aim)
	return p.out
}

// settle sets, behind block 0, slots of what some way doesn't set. Colours hold nothing more there.
func (p *painter) settle(to int) {
	first := true
	for r, row := range p.lives.rows {
		for left := row[to] &^ row[0]; left != 0; left &= left - 1 {
			cell := p.lives.cell[64*r+bits.TrailingZeros64(left)]
			if p.known[cell] != none || p.sees(cell, 0) {
				continue
			}
			if first {
				p.use(0)
				p.emit(api.Word{Kind: api.WordConst})
				first = false
			}
			p.emit(api.Word{Kind: api.WordPut, Imm: int64(p.slotOf(cell))})
		}
	}
}

// sees tells whether a block sets a cell.
func (p *painter) sees(cell int32, b int) bool {
	set := p.writes.behind(cell, p.blocks[b].from)
	return set != none && set < p.blocks[b].to
}

// shift moves what colours hold to where it has to be, and gets what is missing.
func (p *painter) shift(aim *state) {
	var source [api.Colours]int // which colour goes there, or none
	left := 0
	for c := range aim {
		source[c] = none
		if aim[c].cell != none {
			if s := p.now.where(aim[c].cell); s != c && s != none {
				source[c] = s
				left++
			}
		}
	}
	needed := func(c int) bool {
		for _, s := range source {
			if s == c {
				return true
			}
		}
		return false
	}
	for left > 0 {
		moved := false
		for c, s := range source {
			if s != none && !needed(c) {
				p.emit(api.Word{Kind: api.WordMove, D: c, A: s})
				p.now[c], source[c], moved = p.now[s], none, true
				left--
			}
		}
		if !moved {
			left -= p.open(aim, &source)
		}
	}
	for c := range aim {
		if cell := aim[c].cell; cell != none && p.now[c].cell != cell {
			w := p.get(cell)
			w.D = c
			p.emit(w)
		}
	}
}

// open breaks a ring of colours: one of them goes to a colour that is free, or has its value got later. It tells how many moves that
// spares.
func (p *painter) open(aim *state, source *[api.Colours]int) int {
	for c := range source {
		s := source[c]
		if s == none {
			continue
		}
		for t := range source {
			if t == s || source[t] != none || aim[t].cell != none && p.now[t].cell == aim[t].cell {
				continue
			}
			p.use(t)
			p.emit(api.Word{Kind: api.WordMove, D: t, A: s})
			p.now[t] = p.now[s]
			source[c] = t
			return 0
		}
		p.save(s)
		source[c] = none
		p.now[s].cell = none
		return 1
	}
	return 0
}

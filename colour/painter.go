package colour

import "smithy/api"

// place is what a colour holds: what a cell has, and whether it can be got elsewhere, too (from its slot, or made again).
type place struct {
	cell  int32
	saved bool
}

type state [api.Colours]place

// bare is no cell in any colour.
func bare() state {
	var s state
	for c := range s {
		s[c].cell = none
	}
	return s
}

// where is the colour that holds a cell, or none.
func (s *state) where(cell int32) int {
	for c := range s {
		if s[c].cell == cell {
			return c
		}
	}
	return none
}

// painter goes through the blocks of a function. Whatever is wanted, and in no colour, is in its slot, or known, on each way to
// where that is so.
type painter struct {
	*function
	modest bool // blocks begin with nothing in colours, but for what is handed over
	most   int  // steps that may be done for each one
	fits   bool // no more are done
	now    state
	held   [api.Colours]bool // what the instruction needs
	block  int
	done   []bool
	begins []state
	ends   []state
	bodies [][]api.Word
	out    []api.Word // what the block becomes
	steps  int        // how many the block had till here
	given  []int      // by cells: the last block in which it was set, and 1
	last   []int8     // the colour that held it last
	home   []int      // the slot of what has to be saved, or none
	slots  int
	colour int // the highest colour, and 1
}

func newPainter(g *function, most int) *painter {
	p := &painter{function: g, most: most, fits: true, colour: g.of.Params}
	n := len(g.blocks)
	p.done, p.begins, p.ends, p.bodies = make([]bool, n), make([]state, n), make([]state, n), make([][]api.Word, n)
	cells := len(g.cells)
	p.given, p.last, p.home = make([]int, cells), make([]int8, cells), make([]int, cells)
	for c := range cells {
		p.last[c], p.home[c] = none, none
	}
	return p
}

// paint makes the blocks' bodies.
func (p *painter) paint() {
	for _, b := range p.order {
		p.block, p.out, p.steps = b, nil, 0
		p.now = p.begin(b)
		p.begins[b] = p.now
		for i := p.blocks[b].from; i < p.blocks[b].to; i++ {
			p.word(i)
		}
		p.ends[b], p.bodies[b], p.done[b] = p.now, p.out, true
	}
}

// word puts what an instruction becomes: at least one, so that nothing is seen earlier than it was. Jumps are put where blocks are
// joined.
func (p *painter) word(i int) {
	w := tidy(p.of.Code[i])
	p.steps++
	switch source := p.source(i); {
	case w.Kind == api.WordLabel:
		p.steps--
	case w.Kind == api.WordJump:
	case quiet(w.Kind) && !p.wanted(p.sets[i], i, p.block):
		p.idle()
	case source != none && p.now.where(source) == none:
		p.answer(i, p.load(source))
	case w.Kind == api.WordPut:
		p.put(i, w)
	case calls(w.Kind):
		p.call(i, w)
	default:
		p.bring(i, &w)
		p.leave(i)
		p.answer(i, w)
	}
	p.judge(w.Kind)
}

// source is the cell that is set alike, or none.
func (p *painter) source(i int) int32 {
	if k := p.of.Code[i].Kind; k == api.WordMove || k == api.WordGet {
		return p.named(i)[0]
	}
	return none
}

// judge holds what the block takes till now against what it may. Five steps are left for what a function that is called does ahead
// of its first one.
func (p *painter) judge(kind int) {
	if calls(kind) || kind == api.WordTail || kind == api.WordGo {
		p.fits = p.fits && len(p.out)+5 <= p.most*p.steps
	}
}

func (p *painter) emit(w api.Word) { p.out = append(p.out, w) }

// idle puts a step that changes nothing.
func (p *painter) idle() {
	if c := p.now.where(none); c != none {
		p.use(c)
		p.emit(api.Word{Kind: api.WordConst, D: c})
	} else {
		p.emit(api.Word{Kind: api.WordMove})
	}
}

// use notes that there is a colour.
func (p *painter) use(c int) { p.colour = max(p.colour, c+1) }

// slotOf is the slot of a cell.
func (p *painter) slotOf(cell int32) int {
	if p.home[cell] == none {
		p.home[cell] = p.slots
		p.slots++
	}
	return p.home[cell]
}

// load is an instruction that sets D to what a cell has. What was never set has anything: who reads that is stuck.
func (p *painter) load(cell int32) api.Word {
	if p.known[cell] == none && p.empty(cell) {
		return api.Word{Kind: api.WordConst}
	}
	return p.get(cell)
}

// get is an instruction that sets D to what a cell that is in no colour has.
func (p *painter) get(cell int32) api.Word {
	if p.known[cell] == none {
		return api.Word{Kind: api.WordGet, Imm: int64(p.slotOf(cell))}
	}
	return tidy(p.of.Code[p.known[cell]])
}

// empty tells whether a cell that is in no colour was set on no way.
func (p *painter) empty(cell int32) bool {
	return p.given[cell] != p.block+1 && !p.lives.has(cell, p.block)
}

// save puts what a colour holds into its slot.
func (p *painter) save(c int) {
	if at := &p.now[c]; !at.saved {
		at.saved = true
		p.emit(api.Word{Kind: api.WordPut, A: c, Imm: int64(p.slotOf(at.cell))})
	}
}

// bring sees to it that colours hold what an instruction reads, and names these.
func (p *painter) bring(i int, w *api.Word) {
	l := p.named(i)
	for _, cell := range l {
		if c := p.now.where(cell); c != none {
			p.held[c] = true
		}
	}
	for _, cell := range l {
		if p.now.where(cell) == none {
			c := p.room(i, cell)
			load := p.load(cell)
			load.D = c
			p.emit(load)
			p.hold(c, cell)
			p.now[c].saved = load.Kind == api.WordGet || p.known[cell] != none
			p.held[c] = true
		}
	}
	n := 0
	reads(w, func(register *int) {
		*register = p.now.where(l[n])
		n++
	})
	p.held = [api.Colours]bool{}
}

// hold notes that a colour holds a cell.
func (p *painter) hold(c int, cell int32) {
	p.use(c)
	p.now[c] = place{cell: cell}
	p.last[cell], p.given[cell] = int8(c), p.block+1
}

// leave frees the colours of what is not wanted behind an instruction, or set by it.
func (p *painter) leave(i int) {
	for _, cell := range p.named(i) {
		if c := p.now.where(cell); c != none && !p.wanted(cell, i, p.block) {
			p.now[c].cell = none
		}
	}
	if d := p.sets[i]; d != none {
		if c := p.now.where(d); c != none {
			p.now[c].cell = none
		}
	}
}

// answer puts an instruction, and sees to it that a colour holds what it sets.
func (p *painter) answer(i int, w api.Word) {
	d := p.sets[i]
	if d == none {
		p.emit(w)
		return
	}
	if c := p.now.where(d); c != none {
		p.now[c].cell = none
	}
	known := p.known[d] != none
	if known && p.late(d, i) {
		p.idle()
		return
	}
	w.D = p.pick(i, w)
	p.emit(w)
	if p.wanted(d, i, p.block) {
		p.hold(w.D, d)
		p.now[w.D].saved = known
	}
}

// late tells whether a cell isn't worth a colour: none is free, and all that they hold is needed earlier.
func (p *painter) late(cell int32, i int) bool {
	_, most := p.worst(i)
	return p.now.where(none) == none && p.far(cell, i) > most
}

// pick is a colour for what an instruction sets: the one that held it last, or one that is read there, if it is free.
func (p *painter) pick(i int, w api.Word) int {
	d := p.sets[i]
	free := func(c int) bool { return c != none && p.now[c].cell == none }
	if free(int(p.last[d])) {
		return int(p.last[d])
	}
	found := none
	reads(&w, func(register *int) {
		if found == none && free(*register) {
			found = *register
		}
	})
	if found != none {
		return found
	}
	return p.room(i, d)
}

// put sets a slot.
func (p *painter) put(i int, w api.Word) {
	p.bring(i, &w)
	p.leave(i)
	cell := p.sets[i]
	p.given[cell] = p.block + 1
	p.emit(api.Word{Kind: api.WordPut, A: w.A, Imm: int64(p.slotOf(cell))})
}

// call puts a call, behind which colours hold nothing but what it answers.
func (p *painter) call(i int, w api.Word) {
	p.bring(i, &w)
	p.leave(i)
	for c := range p.now {
		if p.now[c].cell != none {
			p.save(c)
		}
	}
	p.now = bare()
	p.answer(i, w)
}

// room is a colour that is free, or made free.
func (p *painter) room(i int, cell int32) int {
	if c := int(p.last[cell]); c != none && p.now[c].cell == none {
		return c
	}
	if c := p.now.where(none); c != none {
		p.use(c)
		return c
	}
	c, _ := p.worst(i)
	p.save(c)
	p.now[c].cell = none
	return c
}

// worst is the colour whose cell isn't needed for longest, and for how long.
func (p *painter) worst(i int) (int, int) {
	worst, most := none, none
	for c := range p.now {
		if !p.held[c] && p.now[c].cell != none {
			if d := p.far(p.now[c].cell, i); d > most {
				worst, most = c, d
			}
		}
	}
	return worst, most
}

const (
	behindCall = 1 << 18 // there it is no longer in its colour
	behindLoop = 1 << 20
	nowhere    = 1 << 22
)

// far tells how long a cell isn't needed. It is a guess, by how instructions stand.
func (p *painter) far(cell int32, i int) int {
	through := func(from, to int) int {
		if int(p.called[from]) < to {
			return behindCall + to - from
		}
		return to - from
	}
	end, read := len(p.of.Code), p.reads.behind(cell, i+1)
	if in := p.blocks[p.block].within; in != none {
		end = p.blocks[in].end
		begin := p.blocks[in].from
		if again := p.reads.behind(cell, begin); again != none && again <= i && (read == none || read >= end) {
			return through(min(i+1, end), end) + through(begin, again)
		}
	}
	switch {
	case read == none:
		return nowhere
	case read >= end:
		return behindLoop + through(i+1, read)
	}
	return through(i+1, read)
}

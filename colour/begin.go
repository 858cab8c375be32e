package colour

import (
	"cmp"
	"slices"

	"smithy/api"
)

// begin is what colours hold where a block begins.
func (p *painter) begin(b int) state {
	ahead := p.blocks[b].ahead
	switch {
	case b == 0:
		s := bare()
		for c := range p.of.Params {
			s[c].cell = int32(c)
		}
		return p.living(s, b)
	case len(ahead) == 1 && (ahead[0] == 0 || !p.modest):
		return p.living(p.ends[ahead[0]], b)
	case p.modest:
		return bare()
	case slices.Contains(ahead, 0): // nothing was done yet: nothing may be done ahead of it
		return p.living(p.ends[0], b)
	}
	return p.meet(b)
}

// living is a state without what isn't wanted where a block begins.
func (p *painter) living(s state, b int) state {
	for c := range s {
		if s[c].cell != none && !p.lives.has(s[c].cell, b) {
			s[c] = place{cell: none}
		}
	}
	return s
}

// guest is a cell that may be in a colour where a block begins.
type guest struct {
	cell   int32
	colour int  // the one in which it comes
	times  int  // how many ways bring it in a colour
	saved  bool // all of these bring it saved
	far    int
}

// meet is what colours hold where several ways meet.
func (p *painter) meet(b int) state {
	l, ways := p.guests(b)
	loop := ways < len(p.blocks[b].ahead)
	if loop {
		l = p.looped(l, b, ways)
	} else {
		l = slices.DeleteFunc(l, func(g guest) bool { return g.times < ways && g.far > near })
		slices.SortStableFunc(l, func(x, y guest) int { return cmp.Compare(x.far, y.far) })
	}
	return p.seat(l[:min(len(l), api.Colours)])
}

// near is how far a value may be from being read that is got from its slot for that.
const near = 32

// guests are what the ways to a block bring in colours that is wanted there, and how many of these ways are known.
func (p *painter) guests(b int) ([]guest, int) {
	var l []guest
	at, ways := map[int32]int{}, 0
	for _, a := range p.blocks[b].ahead {
		if !p.done[a] {
			continue
		}
		ways++
		for c, x := range p.ends[a] {
			if x.cell == none || !p.lives.has(x.cell, b) {
				continue
			}
			n, is := at[x.cell]
			if !is {
				n = len(l)
				at[x.cell] = n
				l = append(l, guest{cell: x.cell, colour: c, saved: true})
			}
			l[n].times++
			l[n].saved = l[n].saved && x.saved
		}
	}
	for i := range l {
		l[i].far = p.far(l[i].cell, p.blocks[b].from-1)
	}
	return l, ways
}

// looped are those that a loop has in colours where it begins: first what it reads there, ahead of all calls; then, if it is easy,
// what goes through it.
func (p *painter) looped(l []guest, b, ways int) []guest {
	from, to := p.round(b)
	easy := p.easy(b)
	var out []guest
	take := func(g guest) {
		set := p.writes.behind(g.cell, from)
		g.saved = p.known[g.cell] != none || (g.saved || !easy) && (set == none || set >= to)
		out = append(out, g)
	}
	p.soon(b, func(cell int32) {
		n := slices.IndexFunc(l, func(g guest) bool { return g.cell == cell })
		if n == none {
			take(guest{cell: cell, colour: int(p.last[cell]), saved: true})
			return
		}
		take(l[n])
		l = slices.Delete(l, n, n+1)
	})
	for _, g := range l {
		if easy && g.times == ways {
			take(g)
		}
	}
	return out
}

// round is where the innermost loop about a block begins, and where it ends. A loop may be come to at its end, where it is asked
// whether it goes on.
func (p *painter) round(b int) (int, int) {
	if in := p.blocks[b].within; in != none {
		return p.blocks[in].from, p.blocks[in].end
	}
	return p.blocks[b].from, p.blocks[b].to
}

const (
	soonWords  = 256 // how many instructions of a loop are looked at
	easyBlocks = 256 // and how many blocks
	easyLive   = 7   // how many values its blocks begin with, if it is easy
)

// soon tells the cells that a loop reads first, from a block on, no more than there are colours.
func (p *painter) soon(b int, tell func(cell int32)) {
	var seen []int32
	look := func(from, to int) {
		for i := from; i < min(to, from+soonWords, int(p.called[from])+1); i++ {
			for _, c := range p.named(i) {
				if len(seen) < api.Colours && !p.slot[c] && p.lives.has(c, b) && !slices.Contains(seen, c) {
					seen = append(seen, c)
					tell(c)
				}
			}
		}
	}
	from, to := p.round(b)
	at := p.blocks[b].from
	look(at, to)
	if int(p.called[at]) >= to {
		look(from, at)
	}
}

// easy tells whether a loop has no calls, and few values at a time.
func (p *painter) easy(b int) bool {
	from, to := p.round(b)
	if int(p.called[from]) < to {
		return false
	}
	first := max(p.blocks[b].within, 1)
	for i := first; i < len(p.blocks) && p.blocks[i].from < to; i++ {
		if i-first > easyBlocks || p.blocks[i].live > easyLive {
			return false
		}
	}
	return true
}

// seat gives guests colours, the ones in which they come first of all.
func (p *painter) seat(l []guest) state {
	s := bare()
	var late []guest
	for _, g := range l {
		if g.colour == none || s[g.colour].cell != none {
			late = append(late, g)
			continue
		}
		s[g.colour] = place{cell: g.cell, saved: g.saved}
	}
	for _, g := range late {
		s[s.where(none)] = place{cell: g.cell, saved: g.saved}
	}
	for c := range s {
		if s[c].cell != none {
			p.last[s[c].cell] = int8(c)
			p.use(c)
		}
	}
	return s
}

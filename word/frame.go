package word

// A bank's cells stand in leaves, which are made when a cell of theirs is set: a function may have far more registers and slots
// than its calls set, and many calls may be open.
const (
	leafCells  = 32
	nearLeaves = 64
)

// leaf is cells, with a bit for each that is set.
type leaf struct {
	set   uint32
	cells [leafCells]uint64
}

// bank is the registers or the slots of a call: most functions have no more than the first leaf has.
type bank struct {
	first *leaf
	near  *[nearLeaves]*leaf
	far   map[uint]*leaf
}

// leaf is the one of a number, nil if it isn't there.
func (b *bank) leaf(n uint) *leaf {
	if n == 0 {
		return b.first
	}
	return b.other(n)
}

func (b *bank) other(n uint) *leaf {
	switch {
	case n >= nearLeaves:
		return b.far[n]
	case b.near != nil:
		return b.near[n]
	}
	return nil
}

func (b *bank) get(i uint) (uint64, bool) {
	l := b.leaf(i / leafCells)
	if l == nil || l.set>>(i%leafCells)&1 == 0 {
		return 0, false
	}
	return l.cells[i%leafCells], true
}

func (b *bank) put(i uint, x uint64, spare *spares) {
	l := b.leaf(i / leafCells)
	if l == nil {
		l = b.add(i/leafCells, spare.take())
	}
	l.set |= 1 << (i % leafCells)
	l.cells[i%leafCells] = x
}

func (b *bank) add(n uint, l *leaf) *leaf {
	switch {
	case n == 0:
		b.first = l
	case n >= nearLeaves && b.far == nil:
		b.far = map[uint]*leaf{n: l}
	case n >= nearLeaves:
		b.far[n] = l
	case b.near == nil:
		b.near = &[nearLeaves]*leaf{}
		b.near[n] = l
	default:
		b.near[n] = l
	}
	return l
}

// clear leaves no cell set.
func (b *bank) clear(spare *spares) {
	spare.give(b.first)
	b.first = nil
	if b.near != nil {
		for i, l := range b.near {
			spare.give(l)
			b.near[i] = nil
		}
	}
	for _, l := range b.far {
		spare.give(l)
	}
	b.far = nil
}

// spares are some leaves that no bank has any more. Without them each call would be new memory.
type spares struct{ leaves []*leaf }

const maxSpares = 1024

func (s *spares) take() *leaf {
	last := len(s.leaves) - 1
	if last < 0 {
		return &leaf{}
	}
	l := s.leaves[last]
	s.leaves = s.leaves[:last]
	l.set = 0
	return l
}

func (s *spares) give(l *leaf) {
	if l != nil && len(s.leaves) < maxSpares {
		s.leaves = append(s.leaves, l)
	}
}

// frame is a call.
type frame struct {
	fun   *function
	at    int // the place among its instructions
	regs  bank
	slots bank
}

// begin makes a frame, whose banks have no cell set, a call of a function.
func (f *frame) begin(fun *function, args []uint64, spare *spares) {
	f.fun, f.at = fun, 0
	for i, x := range args {
		f.regs.put(uint(i), x, spare)
	}
}

func (f *frame) clear(spare *spares) {
	f.regs.clear(spare)
	f.slots.clear(spare)
}

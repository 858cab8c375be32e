package word

// A page is so many words; near pages stand in a list, others in a map: a heap may be far greater than what of it is ever set.
const (
	pageWords = 128
	nearPages = 1 << 16
)

type page [pageWords]uint64

// area is memory from an address on. Pages that are not there are all 0.
type area struct {
	base, size uint64
	near       []*page
	far        map[uint64]*page
}

func newArea(base, size uint64) area {
	pages := (size + pageWords*8 - 1) / (pageWords * 8)
	return area{base: base, size: size, near: make([]*page, min(pages, nearPages))}
}

// has tells whether n bytes at an address are there.
func (a *area) has(at, n uint64) bool {
	from := at - a.base
	return from <= a.size && n <= a.size-from
}

func (a *area) page(n uint64) *page {
	if n < uint64(len(a.near)) {
		return a.near[n]
	}
	return a.far[n]
}

func (a *area) word(n uint64) uint64 {
	if p := a.page(n / pageWords); p != nil {
		return p[n%pageWords]
	}
	return 0
}

func (a *area) setWord(n, x uint64) {
	p := a.page(n / pageWords)
	if p == nil {
		p = a.newPage(n / pageWords)
	}
	p[n%pageWords] = x
}

func (a *area) newPage(n uint64) *page {
	p := &page{}
	switch {
	case n < uint64(len(a.near)):
		a.near[n] = p
	case a.far == nil:
		a.far = map[uint64]*page{n: p}
	default:
		a.far[n] = p
	}
	return p
}

// fill sets the first bytes.
func (a *area) fill(data []byte) {
	for from := 0; from < len(data); from += 8 {
		var x uint64
		for i, b := range data[from:min(from+8, len(data))] {
			x |= uint64(b) << (8 * i)
		}
		a.setWord(uint64(from/8), x)
	}
}

// load is size bytes, the lowest first, that are there. They lie in one word of the area, or in two.
func (a *area) load(at uint64, size int) uint64 {
	from := at - a.base
	by := from % 8 * 8
	x := a.word(from/8) >> by
	if by+uint64(size)*8 > 64 {
		x |= a.word(from/8+1) << (64 - by)
	}
	return x & lowest(size)
}

// store sets size bytes that are there.
func (a *area) store(at uint64, size int, x uint64) {
	from := at - a.base
	by := from % 8 * 8
	which := lowest(size)
	x &= which
	a.setWord(from/8, a.word(from/8)&^(which<<by)|x<<by)
	if by+uint64(size)*8 > 64 {
		a.setWord(from/8+1, a.word(from/8+1)&^(which>>(64-by))|x>>(64-by))
	}
}

// lowest has a 1 in each bit of the lowest size bytes.
func lowest(size int) uint64 { return ^uint64(0) >> (64 - 8*size) }

// memory is the data and the heap, which lie apart.
type memory struct{ data, heap area }

// part is the area that has n bytes at an address, nil if there is none. No bytes are everywhere.
func (m *memory) part(at, n uint64) *area {
	switch {
	case m.heap.has(at, n):
		return &m.heap
	case m.data.has(at, n):
		return &m.data
	}
	return nil
}

func (m *memory) load(at uint64, size int) (uint64, bool) {
	a := m.part(at, uint64(size))
	if a == nil {
		return 0, false
	}
	return a.load(at, size), true
}

func (m *memory) store(at uint64, size int, x uint64) bool {
	a := m.part(at, uint64(size))
	if a == nil {
		return false
	}
	a.store(at, size, x)
	return true
}

// there tells whether n bytes at an address are there.
func (m *memory) there(at, n uint64) bool { return n == 0 || m.part(at, n) != nil }

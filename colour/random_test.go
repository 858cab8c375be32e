package colour

import (
	"fmt"
	"math/rand/v2"
	"slices"
	"testing"

	"smithy/api"
)

// maker makes programs at random that may be. Most of their runs are long, and not stuck.
type maker struct {
	r     *rand.Rand
	p     api.WordProgram
	f     *api.WordFunction
	index int
	pool  []int    // registers that are set, and may be set again
	slots []int    // slots alike
	maybe [][2]int // registers that are set if others aren't 0
	label int
	loose []int // labels to which anything may jump
	deep  int
	few   bool // registers
}

func (m *maker) n(n int) int { return m.r.IntN(n) }

func (m *maker) one() int { return m.pool[m.n(len(m.pool))] }

func (m *maker) put(w api.Word) { m.f.Code = append(m.f.Code, w) }

func (m *maker) fresh() int { m.label++; return m.label }

const dataBytes = 64

// program is a program. Its data begins with names of files, and has room for what is written.
func (m *maker) program() api.WordProgram {
	m.p = api.WordProgram{Data: []byte("f\x00new\x00g\x00none\x00some text of its own"), Zero: dataBytes}
	for i := range 1 + m.n(5) {
		f := api.WordFunction{Name: fmt.Sprint("f", i), Params: m.n(api.MaxWordArgs + 1)}
		if i == 0 {
			f.Params = 0
		}
		m.p.Funs = append(m.p.Funs, f)
	}
	for i := range m.p.Funs {
		m.index = i
		m.function(&m.p.Funs[i])
	}
	return m.p
}

func (m *maker) function(f *api.WordFunction) {
	m.f, m.pool, m.slots, m.maybe, m.label, m.loose, m.deep = f, nil, nil, nil, m.n(5), nil, 0
	for i := range f.Params {
		m.pool = append(m.pool, i)
	}
	count := []int{2, 5, 9, 14, 30, 60, 200}[m.n(7)]
	if m.few {
		count = 1 + m.n(4)
	}
	for range count {
		m.pool = append(m.pool, f.Params+len(m.pool)-min(len(m.pool), f.Params))
	}
	f.Regs = f.Params + count
	for i := range m.n(4) {
		m.slots = append(m.slots, i)
		f.Slots++
	}
	m.presets(f)
	for range m.n(3) {
		m.loose = append(m.loose, m.fresh())
	}
	for _, l := range m.loose {
		m.some(2 + m.n(8))
		m.put(api.Word{Kind: api.WordLabel, L: l})
	}
	m.some(3 + m.n(20))
	m.leave()
	if m.n(4) == 0 { // what is never come to
		m.put(api.Word{Kind: api.WordLabel, L: m.fresh()})
		m.put(api.Word{Kind: api.WordAdd, D: m.one(), A: m.one(), B: m.one()})
		m.leave()
	}
}

// presets sets what may be read.
func (m *maker) presets(f *api.WordFunction) {
	for i := f.Params; i < f.Regs; i++ {
		if m.n(60) != 0 {
			m.put(api.Word{Kind: api.WordConst, D: i, Imm: m.number()})
		}
	}
	for _, s := range m.slots {
		if m.n(20) != 0 {
			m.put(api.Word{Kind: api.WordPut, A: m.one(), Imm: int64(s)})
		}
	}
	for range m.n(3) {
		flag, x := m.register(), m.register()
		m.put(api.Word{Kind: api.WordConst, D: flag, Imm: 0})
		m.maybe = append(m.maybe, [2]int{flag, x})
	}
}

// register is a new one, or, where they are few, one of the last ones, which may be held by somebody else, too.
func (m *maker) register() int {
	if m.few && m.f.Regs > 6+m.n(4) {
		return m.f.Regs - 1 - m.n(2)
	}
	m.f.Regs++
	return m.f.Regs - 1
}

func (m *maker) number() int64 {
	switch m.n(4) {
	case 0:
		return int64(m.r.Uint64())
	case 1:
		return -int64(m.n(20))
	}
	return int64(m.n(20))
}

// some puts instructions.
func (m *maker) some(n int) {
	for range n {
		m.thing()
	}
}

func (m *maker) thing() {
	switch k := m.n(100); {
	case k < 40:
		m.plain()
	case k < 48:
		m.tell()
	case k < 54:
		m.memory()
	case k < 62:
		m.call()
	case k < 66:
		m.sys()
	case k < 72 && len(m.slots) > 0:
		s := int64(m.slots[m.n(len(m.slots))])
		m.put([]api.Word{{Kind: api.WordPut, A: m.one(), Imm: s}, {Kind: api.WordGet, D: m.one(), Imm: s}}[m.n(2)])
	case k < 78 && m.deep < 3:
		m.loop()
	case k < 86 && m.deep < 3:
		m.choice()
	case k < 90 && len(m.loose) > 0:
		m.put(api.Word{Kind: api.WordBranch, A: m.one(), B: m.one(), Cond: 1 + m.n(6), L: m.loose[m.n(len(m.loose))]})
	case k < 95 && len(m.maybe) > 0:
		m.perhaps()
	case k < 97:
		l := m.fresh()
		m.put(api.Word{Kind: api.WordBranch, A: m.one(), B: m.one(), Cond: 1 + m.n(6), L: l}) // both of its ways are one
		m.put(api.Word{Kind: api.WordLabel, L: l})
		m.put(api.Word{Kind: api.WordLabel, L: m.fresh()})
	default:
		m.plain()
	}
}

// plain puts one that reckons.
func (m *maker) plain() {
	kind := api.WordConst + m.n(api.WordReal-api.WordConst+1)
	if m.n(8) == 0 {
		kind = []int{api.WordData, api.WordFunc, api.WordHeap, api.WordMove}[m.n(4)]
	}
	w := api.Word{Kind: kind, D: m.one(), A: m.one(), B: m.one(), Cond: 1 + m.n(6), Real: 1 + m.n(8), Imm: m.number(), L: m.n(3)}
	switch kind {
	case api.WordData:
		w.Imm = int64(m.n(10))
	case api.WordFunc:
		w.F = m.n(len(m.p.Funs))
	case api.WordDiv, api.WordRem:
		if m.n(5) != 0 {
			m.put(api.Word{Kind: api.WordConst, D: w.B, Imm: 1 + int64(m.n(9))})
		}
	}
	m.put(w)
}

// tell writes what a register has.
func (m *maker) tell() {
	at, one, size := m.register(), m.register(), m.register()
	m.put(api.Word{Kind: api.WordData, D: at, Imm: 40})
	m.put(api.Word{Kind: api.WordStore, A: at, B: m.one(), Imm: int64(m.n(8)), Size: 8})
	m.put(api.Word{Kind: api.WordConst, D: one, Imm: int64(1 + m.n(2))})
	m.put(api.Word{Kind: api.WordConst, D: size, Imm: int64(1 + m.n(9))})
	m.put(api.Word{Kind: api.WordSys, D: m.one(), Imm: 1, Args: []int{one, at, size}})
}

// memory reads or writes some.
func (m *maker) memory() {
	at := m.register()
	if m.n(2) == 0 {
		at = m.one()
	}
	if m.n(2) == 0 {
		m.put(api.Word{Kind: api.WordData, D: at, Imm: int64(40 + m.n(30))})
	} else {
		m.put(api.Word{Kind: api.WordConst, D: at, Imm: int64(api.HeapBase) + int64(m.n(1000))})
	}
	m.put(api.Word{Kind: []int{api.WordLoad, api.WordStore}[m.n(2)], D: m.one(), A: at, B: m.one(), Imm: int64(m.n(8)), Size: []int{1, 4, 8}[m.n(3)]})
}

// args are registers for a function's parameters.
func (m *maker) args(f int) []int {
	var out []int
	for i := range m.p.Funs[f].Params {
		switch m.n(4) {
		case 0:
			out = append(out, m.pool[min(len(m.pool)-1, (i+1)%max(1, m.f.Params))])
		default:
			out = append(out, m.one())
		}
	}
	return out
}

func (m *maker) call() {
	f := m.index + 1 + m.n(3)
	if f >= len(m.p.Funs) || m.n(12) == 0 {
		if m.n(4) != 0 {
			return
		}
		f = m.n(len(m.p.Funs))
	}
	w := api.Word{Kind: api.WordCall, D: m.one(), F: f, Args: m.args(f)}
	if m.n(3) == 0 {
		w.Kind, w.A = api.WordApply, m.one()
		m.put(api.Word{Kind: api.WordFunc, D: w.A, F: f})
	}
	m.put(w)
}

func (m *maker) sys() {
	a, b, c := m.register(), m.register(), m.register()
	set := func(r int, x int64) { m.put(api.Word{Kind: api.WordConst, D: r, Imm: x}) }
	switch m.n(5) {
	case 0:
		set(a, 0)
		set(b, int64(api.DataBase)+40)
		set(c, int64(m.n(6)))
		m.put(api.Word{Kind: api.WordSys, D: m.one(), Imm: 0, Args: []int{a, b, c}})
	case 1:
		set(a, int64(api.DataBase)+[]int64{0, 2, 6, 8}[m.n(4)])
		set(b, []int64{0, 577}[m.n(2)])
		m.put(api.Word{Kind: api.WordSys, D: m.one(), Imm: 2, Args: []int{a, b}})
	case 2:
		set(a, int64(3+m.n(3)))
		m.put(api.Word{Kind: api.WordSys, D: m.one(), Imm: 3, Args: []int{a}})
	case 3:
		set(a, int64(3+m.n(3)))
		set(b, int64(api.DataBase))
		set(c, int64(m.n(12)))
		m.put(api.Word{Kind: api.WordSys, D: m.one(), Imm: 1, Args: []int{a, b, c}})
	default:
		if m.n(10) == 0 {
			m.put(api.Word{Kind: api.WordSys, D: m.one(), Imm: 60, Args: []int{m.one()}[:m.n(2)]})
		}
	}
}

// loop goes round some times.
func (m *maker) loop() {
	count, one, top := m.register(), m.register(), m.fresh()
	m.put(api.Word{Kind: api.WordConst, D: count, Imm: int64(1 + m.n(4))})
	m.put(api.Word{Kind: api.WordConst, D: one, Imm: 1})
	m.put(api.Word{Kind: api.WordLabel, L: top})
	m.deep++
	m.some(1 + m.n(6))
	m.deep--
	m.put(api.Word{Kind: api.WordSub, D: count, A: count, B: one})
	m.put(api.Word{Kind: api.WordBranch, A: one, B: count, Cond: api.CondLe, L: top})
}

// choice is one way or another one.
func (m *maker) choice() {
	other, end := m.fresh(), m.fresh()
	m.put(api.Word{Kind: api.WordBranch, A: m.one(), B: m.one(), Cond: 1 + m.n(6), L: other})
	m.deep++
	m.some(m.n(6))
	m.put(api.Word{Kind: api.WordJump, L: end})
	m.put(api.Word{Kind: api.WordLabel, L: other})
	m.some(m.n(6))
	m.put(api.Word{Kind: api.WordLabel, L: end})
	m.deep--
}

// perhaps sets a register on one way alone, or reads it where it is set.
func (m *maker) perhaps() {
	x := m.maybe[m.n(len(m.maybe))]
	l := m.fresh()
	if m.n(2) == 0 {
		m.put(api.Word{Kind: api.WordBranch, A: m.one(), B: m.one(), Cond: 1 + m.n(6), L: l})
		m.put(api.Word{Kind: api.WordConst, D: x[0], Imm: 1})
		m.put(api.Word{Kind: api.WordMove, D: x[1], A: m.one()})
	} else {
		nought := m.register()
		m.put(api.Word{Kind: api.WordConst, D: nought})
		m.put(api.Word{Kind: api.WordBranch, A: x[0], B: nought, Cond: api.CondEq, L: l})
		m.put(api.Word{Kind: api.WordXor, D: m.one(), A: m.one(), B: x[1]})
	}
	m.put(api.Word{Kind: api.WordLabel, L: l})
}

// leave ends a way.
func (m *maker) leave() {
	f := m.index + 1 + m.n(2)
	switch k := m.n(10); {
	case k == 0 && len(m.loose) > 0:
		m.put(api.Word{Kind: api.WordJump, L: m.loose[m.n(len(m.loose))]})
	case k < 3 && f < len(m.p.Funs):
		m.put(api.Word{Kind: api.WordTail, F: f, Args: m.args(f)})
	case k < 4 && f < len(m.p.Funs):
		a := m.one()
		m.put(api.Word{Kind: api.WordFunc, D: a, F: f})
		m.put(api.Word{Kind: api.WordGo, A: a, Args: m.args(f)})
	default:
		m.put(api.Word{Kind: api.WordRet, A: m.one()})
	}
}

// programs are programs at random; of each other one the functions have few registers.
func programs(from, n uint64, each func(m *maker, p api.WordProgram)) {
	for seed := from; seed < from+n; seed++ {
		m := &maker{r: rand.New(rand.NewPCG(seed, 19)), few: seed%3 == 0}
		each(m, m.program())
	}
}

// P19.3: programs at random, from New on.
func TestRandomPrograms(t *testing.T) {
	t.Parallel()
	ends := map[int]int{}
	programs(0, 1500, func(m *maker, p api.WordProgram) {
		_, status := holdAlike(t, p, made(t, p), call{}, theWorld(), 40, 3000)
		ends[status]++
	})
	if ends[api.Running] < 200 || ends[api.Exited] < 200 || ends[api.Stuck] < 100 {
		t.Error(ends)
	}
}

// P19.3: calls that are entered, with words in the memory, what they answer, and what they leave there.
func TestRandomCalls(t *testing.T) {
	t.Parallel()
	ends := map[int]int{}
	programs(10000, 600, func(m *maker, p api.WordProgram) {
		q := made(t, p)
		for _, f := range p.Funs {
			c := call{name: f.Name}
			for range f.Params {
				c.args = append(c.args, uint64(m.number()))
			}
			for range m.n(3) {
				c.words = append(c.words, [2]uint64{api.DataBase + uint64(m.n(60)), m.r.Uint64()}, [2]uint64{api.HeapBase + uint64(m.n(api.MinHeap-8)), m.r.Uint64()})
			}
			_, status := holdAlike(t, p, q, c, theWorld(), 30, 2000)
			ends[status]++
		}
	})
	if ends[api.Running] < 200 || ends[api.WordDone] < 300 || ends[api.Exited] < 20 {
		t.Error(ends)
	}
}

// P19.4: what is coloured is answered as it is, and so takes the same steps.
func TestRandomAgain(t *testing.T) {
	t.Parallel()
	programs(20000, 800, func(m *maker, p api.WordProgram) {
		q := made(t, p)
		again := made(t, q)
		if text(q) != text(again) {
			t.Fatalf("%s became %s", shown(q), shown(again))
		}
		a, b := begun(t, q, true, call{}, theWorld()), begun(t, again, true, call{}, theWorld())
		for n := 1; n < 5000; n += 1 + n/2 {
			if a.to(n) != b.to(n) || a.Steps() != b.Steps() || a.Code() != b.Code() || !slices.Equal(a.world.Trace(), b.world.Trace()) {
				t.Fatalf("behind %d steps not the same: %s", n, shown(q))
			}
		}
	})
}

package word

import (
	"fmt"
	"math"
	"math/rand/v2"
	"reflect"
	"slices"
	"testing"

	"smithy/api"
	"smithy/world"
)

// maker makes programs at random that may be. A careful one reads what was set ahead in its text, and nothing across calls.
type maker struct {
	r       *rand.Rand
	careful bool
	p       api.WordProgram
	f       *api.WordFunction
	set     []int // registers that were set, as far as the text tells
	stored  []int // slots
	labels  int
}

func (m *maker) n(n int) int { return m.r.IntN(n) }

func (m *maker) program() api.WordProgram {
	m.p = api.WordProgram{Zero: m.n(3) * 8, Data: []byte("f\x00new\x00g\x00text and more")[:m.n(21)]}
	for i := range 1 + m.n(4) {
		f := api.WordFunction{Name: fmt.Sprint("f", m.n(4)), Params: m.n(api.MaxWordArgs + 1), Slots: m.n(4)}
		if i == 0 {
			f.Params = 0
		}
		f.Regs = max(1, f.Params+m.n(6))
		if m.n(8) == 0 {
			f.Regs += 40 + m.n(3000)
			f.Slots += m.n(5000)
		}
		m.p.Funs = append(m.p.Funs, f)
	}
	for i := range m.p.Funs {
		m.body(&m.p.Funs[i])
	}
	return m.p
}

func (m *maker) body(f *api.WordFunction) {
	m.f, m.set, m.stored, m.labels = f, nil, nil, 1+m.n(3)
	for i := range f.Params {
		m.set = append(m.set, i)
	}
	var todo []int
	for l := range m.labels {
		todo = append(todo, l)
	}
	length := 2 + m.n(16)
	for i := range length {
		if len(todo) > 0 && m.n(length-i) < len(todo) {
			m.emit(api.Word{Kind: api.WordLabel, L: todo[0]})
			todo = todo[1:]
		}
		m.some()
	}
	for _, l := range todo {
		m.emit(api.Word{Kind: api.WordLabel, L: l})
	}
	m.leave()
}

// emit adds an instruction, with whatever in fields that don't count.
func (m *maker) emit(w api.Word) {
	_, fields := form(w.Kind)
	named := map[rune]bool{}
	for _, c := range fields {
		named[c] = true
	}
	spoil := func(field rune, x *int) {
		if !named[field] {
			*x = m.n(9) - 4
		}
	}
	spoil('D', &w.D)
	spoil('A', &w.A)
	spoil('B', &w.B)
	spoil('L', &w.L)
	spoil('F', &w.F)
	spoil('C', &w.Cond)
	spoil('R', &w.Real)
	spoil('S', &w.Size)
	if !named['i'] {
		w.Imm = int64(m.n(9) - 4)
	}
	if !named['l'] && m.n(3) == 0 {
		w.Args = []int{-1, 99, 3, 3, 3, 3, 3}
	}
	m.f.Code = append(m.f.Code, w)
	if w.Kind == api.WordCall || w.Kind == api.WordApply {
		if m.careful {
			m.set = nil
		}
	}
	if named['D'] {
		m.set = append(m.set, w.D)
	}
	if w.Kind == api.WordPut {
		m.stored = append(m.stored, int(w.Imm))
	}
}

func (m *maker) any() int {
	if m.n(3) == 0 {
		return m.f.Regs - 1 - m.n(min(m.f.Regs, 8))
	}
	return m.n(m.f.Regs)
}

// read is a register that is mostly set.
func (m *maker) read() int {
	if len(m.set) == 0 || m.n(100) < 3 && !m.careful {
		if m.careful {
			d := m.any()
			m.constant(d)
			return d
		}
		return m.any()
	}
	return m.set[len(m.set)-1-m.n(min(len(m.set), 5))]
}

func (m *maker) args(n int) []int {
	var out []int
	for range n {
		out = append(out, m.read())
	}
	return out
}

func (m *maker) constant(d int) {
	m.emit(api.Word{Kind: api.WordConst, D: d, Imm: m.number()})
}

func (m *maker) number() int64 {
	switch m.n(8) {
	case 0:
		return int64(m.r.Uint64())
	case 1:
		l := []int64{math.MinInt64, math.MaxInt64, -1, math.MinInt32, 1 << 32, int64(math.Float64bits(1.5)), int64(math.Float64bits(math.NaN())), int64(math.Float64bits(math.Inf(-1)))}
		return l[m.n(len(l))]
	case 2:
		return api.DataBase + int64(m.n(40)) - 4
	case 3:
		return api.HeapBase + int64(m.n(20)) - 4
	case 4:
		return api.HeapBase + api.MinHeap - int64(m.n(20))
	case 5:
		return api.CodeBase + int64(m.n(5))*16
	}
	return int64(m.n(6))
}

// fresh is a register that is no parameter of what is made next.
func (m *maker) fresh(d int, w api.Word) int {
	w.D = d
	m.emit(w)
	return d
}

func (m *maker) size() int { return []int{1, 4, 8}[m.n(3)] }

func (m *maker) address() int {
	if m.n(3) == 0 && len(m.p.Data)+m.p.Zero > 8 {
		return m.fresh(m.any(), api.Word{Kind: api.WordData, Imm: int64(m.n(len(m.p.Data) + m.p.Zero - 7))})
	}
	if m.n(20) == 0 {
		return m.read()
	}
	return m.fresh(m.any(), api.Word{Kind: api.WordConst, Imm: api.HeapBase + int64(m.n(20))})
}

// some adds an instruction, with those that make what it reads.
func (m *maker) some() {
	switch m.n(14) {
	case 0, 1:
		m.constant(m.any())
	case 2, 3:
		kind := api.WordMove + m.n(api.WordSar-api.WordMove+1)
		m.emit(api.Word{Kind: kind, A: m.read(), B: m.read(), D: m.any()})
	case 4:
		a, b := m.read(), m.read()
		if m.n(2) == 0 {
			m.emit(api.Word{Kind: api.WordSet, A: a, B: b, D: m.any(), Cond: 1 + m.n(6)})
		} else {
			m.emit(api.Word{Kind: api.WordReal, A: a, B: b, D: m.any(), Real: 1 + m.n(8)})
		}
	case 5:
		a := m.address()
		m.emit(api.Word{Kind: api.WordLoad, A: a, D: m.any(), Imm: int64(m.n(8)), Size: m.size()})
	case 6:
		b := m.read()
		a := m.address()
		if m.careful && a == b && m.n(2) == 0 {
			return
		}
		m.emit(api.Word{Kind: api.WordStore, A: a, B: b, Imm: int64(m.n(8)), Size: m.size()})
	case 7, 8:
		if m.n(4) == 0 {
			m.emit(api.Word{Kind: api.WordJump, L: m.n(m.labels)})
			return
		}
		m.emit(api.Word{Kind: api.WordBranch, A: m.read(), B: m.read(), Cond: 1 + m.n(6), L: m.n(m.labels)})
	case 9, 10:
		m.call()
	case 11:
		m.system()
	case 12:
		m.slot()
	case 13:
		switch m.n(4) {
		case 0:
			m.emit(api.Word{Kind: api.WordHeap, D: m.any()})
		case 1:
			m.emit(api.Word{Kind: api.WordFunc, D: m.any(), F: m.n(len(m.p.Funs))})
		case 2:
			m.emit(api.Word{Kind: api.WordData, D: m.any(), Imm: int64(m.n(len(m.p.Data) + m.p.Zero + 1))})
		default:
			if m.n(3) == 0 {
				m.leave()
			}
		}
	}
}

func (m *maker) slot() {
	if m.f.Slots == 0 {
		return
	}
	if m.n(2) == 0 || len(m.stored) == 0 && m.careful {
		m.emit(api.Word{Kind: api.WordPut, A: m.read(), Imm: int64(m.n(m.f.Slots))})
		return
	}
	i := m.n(m.f.Slots)
	if len(m.stored) > 0 && (m.careful || m.n(20) > 0) {
		i = m.stored[m.n(len(m.stored))]
	}
	m.emit(api.Word{Kind: api.WordGet, D: m.any(), Imm: int64(i)})
}

func (m *maker) call() {
	f := m.n(len(m.p.Funs))
	n := m.p.Funs[f].Params
	if m.n(2) == 0 {
		m.emit(api.Word{Kind: api.WordCall, D: m.any(), F: f, Args: m.args(n)})
		return
	}
	args := m.args(n)
	a := m.fresh(m.any(), api.Word{Kind: api.WordFunc, F: f})
	if m.n(15) == 0 {
		args = m.args(m.n(5))
	}
	m.emit(api.Word{Kind: api.WordApply, D: m.any(), A: a, Args: args})
}

func (m *maker) leave() {
	f := m.n(len(m.p.Funs))
	switch m.n(6) {
	case 0:
		m.emit(api.Word{Kind: api.WordTail, F: f, Args: m.args(m.p.Funs[f].Params)})
	case 1:
		args := m.args(m.p.Funs[f].Params)
		m.emit(api.Word{Kind: api.WordGo, A: m.fresh(m.any(), api.Word{Kind: api.WordFunc, F: f}), Args: args})
	case 2:
		m.emit(api.Word{Kind: api.WordJump, L: m.n(m.labels)})
	default:
		m.emit(api.Word{Kind: api.WordRet, A: m.read()})
	}
}

func (m *maker) system() {
	numbers := []int64{0, 0, 1, 1, 1, 2, 2, 2, 3, 60, 4, -1}
	number := numbers[m.n(len(numbers))]
	if m.n(4) == 0 || m.f.Regs < 3 {
		m.emit(api.Word{Kind: api.WordSys, Imm: number, D: m.any(), Args: m.args(m.n(4))})
		return
	}
	put := func(d int, n int64) { m.emit(api.Word{Kind: api.WordConst, D: d, Imm: n}) }
	last := m.f.Regs - 1
	switch number {
	case 2:
		m.emit(api.Word{Kind: api.WordData, D: last, Imm: int64(m.n(len(m.p.Data) + m.p.Zero + 1))})
		put(last-1, []int64{0, 577, 577, 1}[m.n(4)])
		put(last-2, 0)
	default:
		put(last, int64(m.n(5)))
		put(last-1, api.HeapBase+int64(m.n(12)))
		put(last-2, int64(m.n(9)))
		if m.n(2) == 0 {
			m.emit(api.Word{Kind: api.WordData, D: last - 1, Imm: int64(m.n(len(m.p.Data) + m.p.Zero + 1))})
		}
	}
	m.emit(api.Word{Kind: api.WordSys, Imm: number, D: m.any(), Args: []int{last, last - 1, last - 2}})
}

// randomProgram is that of a number.
func randomProgram(seed uint64) (api.WordProgram, *rand.Rand) {
	r := rand.New(rand.NewPCG(1313, seed))
	return (&maker{r: r, careful: r.IntN(3) > 0}).program(), r
}

// tally counts what was met, so that what is made at random is not all of one sort.
type tally [4]int

// P13.4, P13.6: programs at random, a step at a time, against what the chapter's words say; and by parts.
func TestRandomRuns(t *testing.T) {
	const count = 4000
	met := make([]tally, count)
	hands(count, func(i int) {
		p, r := randomProgram(uint64(i))
		if e := Check(p); e != api.OK {
			t.Errorf("%v of\n%s", e, text(p))
			return
		}
		is := Strict(p)
		for _, strict := range []bool{false, true} {
			o := oneByOne(t, p, strict)
			if o == nil {
				return
			}
			met[i][o.status]++
			if is && o.unset {
				t.Errorf("Strict, and stuck for what isn't set:\n%s", text(p))
			}
			byParts(t, p, strict, r, o.steps)
		}
		sameLoosely(t, p)
	})
	var all tally
	for _, m := range met {
		for i, n := range m {
			all[i] += n
		}
	}
	if all[api.Running] < count/10 || all[api.Exited] < count/10 || all[api.Stuck] < count/10 {
		t.Error(all)
	}
}

const randomSteps = 120

// oneByOne runs a program by Run(1), and holds it against the oracle behind each step.
func oneByOne(t *testing.T, p api.WordProgram, strict bool) *oracle {
	s, w := process(t, p, strict)
	o := newOracle(p, least, strict, world.New(plainWorld()))
	for n := range randomSteps {
		if n%8 == 0 || n < 20 {
			if why := alike(s, w, o); why != "" {
				t.Errorf("behind %d steps, strict %v: %s, of\n%s", n, strict, why, text(p))
				return nil
			}
		}
		if s.Run(1) != o.run(1) {
			t.Errorf("behind %d steps, strict %v: it doesn't stand so, of\n%s", n, strict, text(p))
			return nil
		}
		if o.status != api.Running {
			break
		}
	}
	if why := alike(s, w, o); why != "" {
		t.Errorf("strict %v: %s, of\n%s", strict, why, text(p))
		return nil
	}
	return o
}

// byParts holds that a run of a + b steps is one of a and one of b.
func byParts(t *testing.T, p api.WordProgram, strict bool, r *rand.Rand, steps int) {
	a, b := r.IntN(steps+2), r.IntN(steps+2)
	s, w := process(t, p, strict)
	s.Run(a)
	st := s.Run(b)
	s2, w2 := process(t, p, strict)
	o := newOracle(p, least, strict, world.New(plainWorld()))
	if st2 := s2.Run(a + b); st != st2 || o.run(a+b) != st {
		t.Errorf("%d and %d steps: %d, %d, %d of\n%s", a, b, st, st2, o.status, text(p))
	}
	for _, why := range []string{alike(s, w, o), alike(s2, w2, o)} {
		if why != "" {
			t.Errorf("%d and %d steps: %s, of\n%s", a, b, why, text(p))
		}
	}
}

// sameLoosely holds that where a strict process isn't stuck another one does the same, with steps of every number.
func sameLoosely(t *testing.T, p api.WordProgram) {
	s, w := process(t, p, true)
	u, v := process(t, p, false)
	for n := range 60 {
		st := s.Run(1)
		if st == api.Stuck {
			return
		}
		other := u.Run(1)
		if other != st || s.Steps() != u.Steps() || s.Code() != u.Code() || !reflect.DeepEqual(w.Trace(), v.Trace()) {
			t.Errorf("behind %d steps: %d, %d of\n%s", n, st, other, text(p))
			return
		}
	}
	if !reflect.DeepEqual(w.Files(), v.Files()) || !slices.Equal(image(s, p), image(u, p)) {
		t.Errorf("files or memory are not the same, of\n%s", text(p))
	}
}

// P13.3, P13.4: functions entered in turn, on one process, against the oracle.
func TestRandomEnters(t *testing.T) {
	hands(1500, func(i int) {
		p, r := randomProgram(uint64(100000 + i))
		strict := r.IntN(2) == 0
		s, w := process(t, p, strict)
		o := newOracle(p, least, strict, world.New(plainWorld()))
		for range 6 {
			n := r.IntN(30)
			s.Run(n)
			o.run(n)
			if why := alike(s, w, o); why != "" {
				t.Errorf("strict %v: %s, of\n%s", strict, why, text(p))
				return
			}
			f := p.Funs[r.IntN(len(p.Funs))]
			first := f
			for _, x := range p.Funs {
				if x.Name == f.Name {
					first = x
					break
				}
			}
			var args []uint64
			for range first.Params {
				args = append(args, r.Uint64N(5)+api.HeapBase*r.Uint64N(2))
			}
			if e := s.Enter(f.Name, args); e != api.OK {
				t.Errorf("%v of\n%s", e, text(p))
				return
			}
			o.enter(f.Name, args)
		}
	})
}

package basisrt

import (
	"fmt"
	"math/rand/v2"
	"strings"
	"testing"

	"smithy/api"
)

// outOfMemory tells whether a process has ended as gc.full does, and has said nothing else.
func (b *bench) outOfMemory(st int) bool {
	l := b.w.Trace()
	return st == api.Exited && b.s.Code() == 137 && len(l) == 1 && l[0] == (api.Event{Kind: api.EventErr, Text: "out of memory"})
}

// room leaves just so many bytes of room for held words.
func (b *bench) room(n uint64) {
	for b.load(endCell)-b.load(topCell) > n {
		b.pushWord(1, small(0))
	}
	if b.load(endCell)-b.load(topCell) != n {
		b.Fatal("no such room")
	}
}

// nests makes one value of another one, again and again.
func (b *bench) nests(x any, many int, make func(inner any) any) at {
	base := len(b.stack)
	b.push(x)
	for range many {
		b.push(make(b.last()))
		b.keepLast(base)
	}
	return b.last()
}

// zeros are n small numbers.
func zeros(n int) v {
	out := make(v, n)
	for i := range out {
		out[i] = 0
	}
	return out
}

// P17.3: values so wide, or so deep, that the pairs that wait have just room, and with 8 bytes less: 16 for each.
func TestEqualRoom(t *testing.T) {
	t.Parallel()
	wide := func(n int) func(b *bench) any {
		return func(*bench) any { return vec(zeros(n)) }
	}
	deep := func(n int, make func(x any) any) func(b *bench) any {
		return func(b *bench) any { return b.nests("x", n, make) }
	}
	for i, r := range []struct {
		make  func(b *bench) any
		pairs int
	}{
		{wide(0), 0}, {wide(1), 1}, {wide(2), 2}, {wide(100), 100}, {wide(450), 450},
		{func(b *bench) any { return block{5, zeros(60)} }, 60},
		{func(b *bench) any { return 5 }, 0}, {func(b *bench) any { return "text" }, 0}, {func(b *bench) any { return power2(90) }, 0},
		{deep(50, func(x any) any { return tuple(x) }), 1},
		{deep(50, func(x any) any { return vec{x, 1} }), 51},
		{deep(50, func(x any) any { return tuple(x, 1, 2) }), 101},
		{deep(50, func(x any) any { return block{1, v{tuple(0, x)}} }), 2}, // a list
		{deep(50, func(x any) any { return block{1, v{tuple(tuple(1, "2", 3), x)}} }), 4},
		{deep(20, func(x any) any { return tuple(1, x, 2) }), 22},
		{func(b *bench) any { return tuple(wide(30)(b), wide(40)(b), wide(20)(b)) }, 41},
	} {
		for _, less := range []uint64{0, 8, 16} {
			if r.pairs == 0 && less > 0 {
				continue
			}
			b := newBench(t, least, i%2 == 0)
			b.push(r.make(b))
			x := b.last()
			b.push(r.make(b))
			y := b.last()
			p := b.load(topCell)
			for _, z := range []any{x, y, 1, 1} {
				b.push(z)
			}
			b.room(16*uint64(r.pairs) - less)
			st := b.enter("do.eq", p)
			if less == 0 && (st != api.WordDone || b.s.Answer() != 3) || less > 0 && !b.outOfMemory(st) {
				t.Errorf("values %d, room for %d pairs less %d: %d, %d", i, r.pairs, less, st, b.s.Answer())
			}
			if less == 0 {
				b.walk(1, small(0))
			}
		}
	}
}

// P17.3: with much room, values that need more than it.
func TestEqualFull(t *testing.T) {
	t.Parallel()
	for i, make := range []func(b *bench) any{
		func(b *bench) any { return b.nests(0, 520, func(x any) any { return tuple(x, 1) }) },
		func(b *bench) any { return vec(zeros(520)) },
	} {
		b := newBench(t, least, i == 0)
		b.push(make(b))
		x := b.last()
		b.push(make(b))
		p, _ := b.hand(v{x, b.last()})
		if st := b.enter("do.eq", p); !b.outOfMemory(st) {
			t.Error(i, st, b.w.Trace())
		}
	}
}

// many are calls of each function but fail and exit, on each of its ways to ask for memory.
func many() []row {
	var files []row
	for _, n := range []int{0, 5, 1024, 3000} {
		s := fmt.Sprint("file", n)
		files = append(files, row{"writefile", v{s, some(n)}, "<0: >"}, row{"readfile", v{s}, short(some(n))})
	}
	return append(files,
		row{"cat", v{some(100), some(31)}, short(some(100) + some(31))}, row{"cat", v{some(3000), again(0)}, short(some(3000) + some(3000))}, row{"cat", v{some(1), ""}, short(some(1))}, row{"size", v{"abc"}, "3"},
		row{"ssub", v{"abc", 2}, "99"}, row{"ssub", v{"abc", 3}, subscript}, row{"substring", v{some(100), 3, 90}, short(some(100)[3:93])}, row{"substring", v{"abc", power2(70), 0}, subscript}, row{"substring", v{"abc", 3, 0}, `""`},
		row{"slt", v{"ab", "b"}, "1"}, row{"sle", v{"b", "ab"}, "0"}, row{"clt", v{1, 2}, "1"}, row{"cle", v{2, 1}, "0"}, row{"chr", v{65}, "65"}, row{"chr", v{power2(64)}, chr}, row{"ord", v{65}, "65"}, row{"str", v{65}, `"A"`},
		row{"eq", v{tuple("a", vec{1, "b"}), tuple("a", vec{1, "b"})}, "1"}, row{"eq", v{tuple("a", vec{1, "b"}), tuple("a", vec{1, "c"})}, "0"}, row{"ref", v{"in it"}, `cell("in it")`}, row{"get", v{ref{"in it"}}, `"in it"`}, row{"set", v{ref{"in it"}, "now"}, "<0: >"},
		row{"same", v{ref{1}, ref{1}}, "0"}, row{"vector", v{list{1, "two", vec{3}}}, `[1 "two" [3]]`}, row{"vector", v{list{}}, "[]"}, row{"vlen", v{vec{1, 2}}, "2"}, row{"vsub", v{vec{1, "two"}, 1}, `"two"`}, row{"vsub", v{vec{1}, -1}, subscript},
		row{"bnew", v{5}, "bytes 5 0000000000"}, row{"bnew", v{2000}, "bytes 2000 " + strings.Repeat("00", 20)}, row{"bnew", v{-5}, size}, row{"blen", v{bytes("abc")}, "3"}, row{"bget", v{bytes("abc"), 1}, "98"}, row{"bget", v{bytes("abc"), power2(62)}, subscript},
		row{"bset", v{bytes("abc"), 1, power2(80)}, "<0: >"}, row{"bset", v{bytes("abc"), 3, 1}, subscript}, row{"print", v{"out"}, "<0: >"}, row{"eprint", v{"err"}, "<0: >"}, row{"inputline", v{1}, `""`}, row{"readfile", v{"none"}, io}, row{"writefile", v{"", "x"}, io},
		row{"rneg", v{1.5}, bits(-1.5)}, row{"rlt", v{1.5, 2.5}, "1"}, row{"rle", v{2.5, 1.5}, "0"}, row{"radd", v{1.5, 2.0}, bits(3.5)}, row{"rsub", v{1.5, 2.0}, bits(-0.5)}, row{"rmul", v{1.5, 2.0}, bits(3)}, row{"rdiv", v{1.0, 2.0}, bits(0.5)},
	)
}

// P17.2: with the least heap each function is called again and again, while much is held and much is let go: things move within calls,
// at each place where memory is asked for.
func TestLeastHeap(t *testing.T) {
	for i, name := range []string{"loose", "strict"} {
		t.Run(name, func(t *testing.T) {
			t.Parallel()
			r := rand.New(rand.NewPCG(uint64(i), 14))
			b := newBench(t, least, i == 1)
			for range 80 { // the input's lines
				b.ask("inputline", 1)
				b.popTo(always)
			}
			b.push(strings.Repeat("much of it ", 300))
			base := len(b.stack)
			for _, q := range many() {
				for range 60 {
					b.run("gc.alloc", 8+8*r.Uint64N(400)) // lost
					b.rows(q)
					b.popTo(base)
				}
			}
		})
	}
}

// P17.2: lines that are read while things move.
func TestLinesInLeastHeap(t *testing.T) {
	t.Parallel()
	var in strings.Builder
	r := rand.New(rand.NewPCG(3, 14))
	for range 300 {
		in.WriteString(noLine(r.IntN([2]int{50, 5000}[r.IntN(2)])) + "\n")
	}
	for i := range 2 {
		benchIn(t, api.World{Stdin: in.String()}, least, i == 0).lines()
	}
}

// P17.2: of lines and files that are far too long no more is held than of others.
func TestVastTexts(t *testing.T) {
	t.Parallel()
	vast := noLine(1500000)
	for i := range 2 {
		b := benchIn(t, api.World{Stdin: vast + "\nnext\n" + vast, Files: []api.File{{Name: "vast", Data: vast}}}, 1<<20, i == 0)
		b.rows(row{"inputline", v{1}, size}, row{"inputline", v{1}, `"next\n"`}, row{"readfile", v{"vast"}, io}, row{"inputline", v{1}, size}, row{"inputline", v{1}, `""`})
	}
}

// fill holds things till there is no room for another one.
func (b *bench) fill() {
	for n := uint64(1 << 13); n >= 8; n /= 2 {
		for b.enter("gc.alloc", n) == api.WordDone {
			place := b.s.Answer()
			b.store(place, 1|api.HeapBytes<<1|(n-8)<<24)
			b.pushWord(place, small(0))
		}
	}
}

// A function ends as gc.full does, where there is no room: it says so, and nothing else but what it has done to the world. Others answer
// as ever.
func TestFull(t *testing.T) {
	t.Parallel()
	const full = "out of memory"
	ended := 0
	for i, q := range many() {
		b := newBench(t, least, i%2 == 0)
		if q.name == "readfile" && q.want != io {
			b.rows(row{"writefile", v{q.args[0], some(len(q.want) * 30)}, "<0: >"})
		}
		p, _ := b.hand(q.args)
		b.fill()
		before := len(b.said())
		st := b.enter("do."+q.name, p)
		said := b.said()[before:]
		switch {
		case st == api.Exited && b.s.Code() == 137 && said == full:
			ended++
		case st != api.WordDone || said != "" && said != "err" || strings.HasPrefix(q.want, "raises"):
			t.Errorf("%s of %s: %d, code %d, %q", q.name, brief(q.args), st, b.s.Code(), said)
		}
	}
	if ended < 30 {
		t.Error(ended, "have ended")
	}
}

// said is all that was written to the error output.
func (b *bench) said() string {
	out := ""
	for _, e := range b.w.Trace() {
		if e.Kind == api.EventErr {
			out += e.Text
		}
	}
	return out
}

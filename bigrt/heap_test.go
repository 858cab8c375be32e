package bigrt

import (
	"math"
	"math/rand/v2"
	"strings"
	"testing"

	"smithy/api"
	"smithy/big"
)

// request is a call, and what it should answer, or raise.
type request struct {
	name   string
	args   []value
	want   value
	raises int
}

// requests are calls of each function, on each of its ways to ask for memory.
func requests(r *rand.Rand) []request {
	var out []request
	of := func(x, y api.Int, names ...string) {
		for _, name := range names {
			want, raises := ofTwo(name, x, y)
			out = append(out, request{name, []value{integer(x), integer(y)}, want, raises})
		}
	}
	great, middle, little := random(r, 300), random(r, 140), random(r, 2)
	of(great, middle, twos()...)
	of(big.Neg(great), middle, twos()...)
	of(middle, great, twos()...)
	of(great, little, twos()...)
	of(little, great, twos()...)
	of(great, big.Of(-7), twos()...)
	of(big.Of(1<<62-1), big.Of(1), "int.add", "int.mul")
	of(big.Of(1<<61), big.Of(1<<61), "int.add", "int.mul")
	of(big.Of(-1<<62), big.Of(-1), "int.div", "int.mul")
	of(random(r, 1024), random(r, 3), "int.add", "int.mul", "int.div", "int.mod")
	of(great, big.Of(0), "int.div", "int.mod")
	for _, x := range []api.Int{great, big.Neg(great), little, big.Of(-1 << 62), big.Of(0), random(r, 600)} {
		for _, name := range ones() {
			want, raises := ofOne(name, x)
			out = append(out, request{name, []value{integer(x)}, want, raises})
		}
	}
	for _, x := range []float64{-1e300, 1e18, 5e18, -0.25, math.Inf(1)} {
		for _, name := range []string{"real.floor", "real.bits"} {
			want, raises := ofReal(name, math.Float64bits(x))
			out = append(out, request{name, []value{realOf(math.Float64bits(x))}, want, raises})
		}
	}
	return out
}

// P16.2: with the least heap each function is called again and again, while much is held and much is let go: things move within calls,
// at each place where memory is asked for.
func TestLeastHeap(t *testing.T) {
	for i, name := range []string{"loose", "strict"} {
		t.Run(name, func(t *testing.T) {
			t.Parallel()
			r := rand.New(rand.NewPCG(uint64(i), 14))
			b := newBench(t, least, i == 1)
			b.push(b.word(textOf(strings.Repeat("much of it ", 500))))
			for _, q := range requests(r) {
				for range 120 {
					b.run("gc.alloc", 8+8*r.Uint64N(400)) // lost
					b.is(q.want, q.raises, q.name, q.args...)
				}
			}
		})
	}
}

// With the least heap there is room for the greatest integers that programs make, whatever is done with two of them.
func TestGreatestInLeast(t *testing.T) {
	t.Parallel()
	r := rand.New(rand.NewPCG(10, 24))
	b := newBench(t, least, true)
	for _, l := range [][2]int{{1024, 1024}, {1024, 1023}, {1024, 512}, {1024, 2}, {1024, 1}, {512, 512}, {513, 512}, {1, 1024}} {
		for range 3 {
			x, y := integer(random(r, l[0])), integer(random(r, l[1]))
			b.two(x, y)
			b.one(x)
			b.one(y)
		}
	}
	x := integer(random(r, 4096)) // and for one that nobody makes
	for _, name := range twos() {
		want, raises := ofTwo(name, x.int(), big.Of(-7))
		b.is(want, raises, name, x, number(-7))
	}
	for _, name := range []string{"int.neg", "int.real"} {
		want, raises := ofOne(name, x.int())
		b.is(want, raises, name, x)
	}
}

// said is all that was written to the error output.
func (b *bench) said() string {
	out := ""
	for _, e := range b.w.Trace() {
		if e.Kind != api.EventErr {
			b.Error("an event that may not be", e)
		}
		out += e.Text
	}
	return out
}

// fill holds things till there is no room for another one.
func (b *bench) fill() {
	for n := uint64(1 << 13); n >= 8; n /= 2 {
		for b.enter("gc.alloc", n) == api.WordDone {
			at := b.s.Answer()
			b.store(at, 1|api.HeapBytes<<1|(n-8)<<24)
			b.push(at)
		}
	}
}

// A function ends as gc.full does, where there is no room: it says so, and nothing else. Some answers take none, or that of an argument
// that is let go.
func TestFull(t *testing.T) {
	t.Parallel()
	const full = "out of memory"
	ended := 0
	for i, q := range requests(rand.New(rand.NewPCG(5, 5))) {
		b := newBench(t, least, i%2 == 0)
		p, _ := b.hand(q.args)
		b.fill()
		before := b.said()
		st := b.enter(q.name, p)
		switch {
		case st == api.Exited && b.s.Code() == 137 && b.said() == before+full:
			ended++
		case st != api.WordDone || b.said() != before || q.raises != none || !b.value(b.s.Answer()).same(q.want):
			t.Errorf("%s of %v: %d, code %d, %q", q.name, q.args, st, b.s.Code(), b.said()[len(before):])
		}
	}
	if ended < 40 {
		t.Error(ended, "have ended")
	}
}

package bigrt

import (
	"math"
	"math/bits"
	"math/rand/v2"
	"testing"

	"smithy/api"
	"smithy/big"
	"smithy/build"
	"smithy/word"
	"smithy/world"
)

// ofWords is the integer of words, the highest first.
func ofWords(l ...uint64) api.Int {
	var n api.Int
	for i := len(l) - 1; i >= 0; i-- {
		n.Mag = append(n.Mag, uint32(l[i]), uint32(l[i]>>32))
	}
	return big.Norm(n)
}

// pairs holds int.div and int.mod with all pairs of signs.
func (b *bench) pairs(x, y api.Int) {
	for _, u := range signed(x) {
		for _, v := range signed(y) {
			for _, name := range []string{"int.div", "int.mod"} {
				want, raises := ofTwo(name, u, v)
				b.is(want, raises, name, integer(u), integer(v))
			}
		}
	}
}

// P16.2: quotients with rests of 0 and next to 0, by divisors of one limb and of many.
func TestRests(t *testing.T) {
	both(t, func(b *bench) {
		r := b.keeper.r
		for n := 1; n <= 9; n++ {
			for m := 0; m <= 9; m++ {
				y, q := random(r, n), random(r, m)
				x := big.Mul(y, q)
				b.pairs(x, y)
				for _, d := range []api.Int{big.Of(1), big.Of(-1), near(big.Abs(y), -1), near(big.Abs(y), 1)} {
					b.pairs(big.Add(x, d), y)
				}
			}
		}
	})
}

// P16.2: quotients that are 0 or -1, and what Div is raised of.
func TestLittle(t *testing.T) {
	both(t, func(b *bench) {
		for n := 0; n <= 6; n++ {
			x, y := random(b.keeper.r, n), random(b.keeper.r, n+1)
			b.pairs(x, y)
			b.pairs(x, near(big.Abs(x), 1))
			b.pairs(x, big.Of(0))
		}
		for _, x := range []value{number(0), number(5), integer(power2(70)), integer(random(b.keeper.r, 2000))} {
			b.is(value{}, api.ExnDiv, "int.div", x, number(0))
			b.is(value{}, api.ExnDiv, "int.mod", x, number(0))
		}
	})
}

// P16.2: a quotient of which all bits are 1 has one word more when it is cut downwards.
func TestRipple(t *testing.T) {
	both(t, func(b *bench) {
		for n := 1; n <= 4; n++ {
			for m := 1; m <= 4; m++ {
				for _, y := range []api.Int{power2(64*m - 64), power2(64*m - 1), near(power2(64*m), -1), near(power2(32*m), 1)} {
					q := near(power2(64*n), -1)
					for _, d := range []api.Int{big.Of(1), near(y, -1)} {
						b.pairs(big.Add(big.Mul(y, q), d), y)
					}
				}
			}
		}
	})
}

// firstGuess tells by how much the first guess of the highest word of x / y is too great, and whether it would be above the greatest
// word: both by their words, the highest first, x having one more than y, and being below y times 2^64.
func firstGuess(x, y []uint64) (uint64, bool) {
	shift := bits.LeadingZeros64(y[0])
	moved := func(u, v uint64) uint64 { return u<<shift | v>>1>>(63-shift) }
	high, low, d := moved(x[0], x[1]), moved(x[1], x[2]), moved(y[0], y[1])
	q := uint64(math.MaxUint64)
	if high < d {
		q, _ = bits.Div64(high, low, d)
	}
	want, _, _ := big.DivMod(ofWords(x...), ofWords(y...))
	return q - toWord(want), high >= d
}

func toWord(n api.Int) uint64 {
	x := uint64(0)
	for i, l := range n.Mag {
		x |= uint64(l) << (32 * i)
	}
	return x
}

// P16.2: words of the quotient that a first guess gets wrong, by 1 and by 2, and such whose guess is the greatest word.
func TestGuesses(t *testing.T) {
	both(t, func(b *bench) {
		r := b.keeper.r
		words := []uint64{0, 1, 2, 3, 1 << 32, 1<<32 - 1, 1 << 62, 1<<63 - 1, 1 << 63, 1<<63 + 1, math.MaxUint64 - 1, math.MaxUint64}
		pick := func() uint64 {
			if r.IntN(5) == 0 {
				return r.Uint64()
			}
			return words[r.IntN(len(words))]
		}
		var by [3]int
		most := 0
		for range 4000 {
			y := []uint64{pick() | 1, pick(), pick()}
			if r.IntN(2) == 0 {
				y[0] = 1 << r.IntN(64)
			}
			rest := []uint64{y[0], pick(), pick()} // the highest words of x
			if big.Cmp(ofWords(rest...), ofWords(y...)) >= 0 {
				rest = []uint64{y[0] - 1, pick(), pick()}
			}
			x := append(rest, pick())
			wrong, great := firstGuess(x, y)
			by[wrong]++
			if great {
				most++
			}
			b.pairs(ofWords(x...), ofWords(y...))
			b.pairs(ofWords(append(x, pick(), pick())...), ofWords(y...))
		}
		if by[1] < 100 || by[2] < 10 || most < 100 {
			b.Errorf("guesses are wrong by %v, %d are the greatest word", by, most)
		}
	})
}

// dividing is a process whose function `inverse` answers that of its parameter, `quotient` and `rest` what is made of two words and a
// divisor.
func dividing(t *testing.T) *word.Process {
	t.Helper()
	write := func(name string, params int, do func(w *writer)) api.WordFunction {
		return build.Function(name, params, func(b *build.Builder) { do(&writer{Values: build.NewValues(b, 0, 0)}) })
	}
	divided := func(w *writer) (q, rest build.Reg) {
		rest = w.Copy(w.Param(0))
		d := w.Param(2)
		return w.divided(rest, w.Param(1), divisor{topmost{word: d}, w.inverse(d)}), rest
	}
	p := api.WordProgram{Funs: []api.WordFunction{
		build.Function("main", 0, func(b *build.Builder) { b.Ret(b.Const(0)) }),
		write("inverse", 1, func(w *writer) { w.Ret(w.inverse(w.Param(0))) }),
		write("quotient", 3, func(w *writer) { q, _ := divided(w); w.Ret(q) }),
		write("rest", 3, func(w *writer) { _, rest := divided(w); w.Ret(rest) }),
	}}
	s, e := word.New(p, api.MinHeap, true, world.New(api.World{}))
	if e != api.OK || !word.Strict(p) {
		t.Fatal(e, "not strict")
	}
	return s
}

// Divisors' inverses, and quotients by them, are right for all words: at edges, where guesses are too great and too small, and at random.
func TestDivisors(t *testing.T) {
	t.Parallel()
	s := dividing(t)
	ask := func(name string, args ...uint64) uint64 {
		if e := s.Enter(name, args); e != api.OK || s.Run(1000) != api.WordDone {
			t.Fatal(name, e)
		}
		return s.Answer()
	}
	r := rand.New(rand.NewPCG(5, 6))
	near := func(x uint64) uint64 { return x + r.Uint64N(7) - 3 }
	var great, right, little int
	for range 40000 {
		d := [6]uint64{r.Uint64(), near(1 << 63), near(0), near(1<<63 + r.Uint64()>>33), near(r.Uint64() << 32), near(1 << (32 + r.IntN(32)))}[r.IntN(6)] | 1<<63
		v, _ := bits.Div64(^d, math.MaxUint64, d)
		if x := ask("inverse", d); x != v {
			t.Fatalf("inverse of %#x: %#x, wanted %#x", d, x, v)
		}
		high := [5]uint64{r.Uint64(), near(d - 4), near(0), d >> r.IntN(64), near(d / 2)}[r.IntN(5)] % d
		low := [4]uint64{r.Uint64(), near(0), near(1 << 63), near(d)}[r.IntN(4)]
		if r.IntN(4) == 0 { // nothing is left, or little
			high, low = bits.Mul64([3]uint64{r.Uint64(), near(math.MaxUint64 - 4), near(d / 2)}[r.IntN(3)], d)
			low += r.Uint64N(2)
		}
		q, rest := bits.Div64(high, low, d)
		if x, y := ask("quotient", high, low, d), ask("rest", high, low, d); x != q || y != rest {
			t.Fatalf("%#x %#x by %#x: %#x, rest %#x, wanted %#x, %#x", high, low, d, x, y, q, rest)
		}
		up, down := bits.Mul64(v, high)
		_, carry := bits.Add64(down, low, 0)
		switch up + high + carry + 1 - q {
		case 1:
			great++
		case 0:
			right++
		default:
			little++
		}
	}
	if great < 1000 || right < 1000 || little < 10 {
		t.Errorf("%d guesses are too great, %d right, %d too small", great, right, little)
	}
}

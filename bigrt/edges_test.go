package bigrt

import (
	"math"
	"math/rand/v2"
	"testing"

	"smithy/api"
	"smithy/big"
)

// edges are integers at which something changes: what is small, how many limbs or words there are.
func edges() []value {
	out := []value{number(0)}
	for _, k := range []int{0, 1, 2, 31, 32, 33, 61, 62, 63, 64, 65, 95, 96, 127, 128, 129, 192} {
		for _, d := range []int64{-1, 0, 1} {
			for _, n := range signed(near(power2(k), d)) {
				out = append(out, integer(n))
			}
		}
	}
	return out
}

// both does a test with a process that is strict, and one that isn't.
func both(t *testing.T, do func(b *bench)) {
	t.Parallel()
	for i, name := range []string{"loose", "strict"} {
		t.Run(name, func(t *testing.T) {
			t.Parallel()
			do(newKept(t, uint64(i), i == 1))
		})
	}
}

// The chapter's examples.
func TestExamples(t *testing.T) {
	both(t, func(b *bench) {
		great := thing(api.HeapBig, 0, "\x00\x00\x00\x00\x00\x00\x00\x40")
		b.is(great, none, "int.add", number(1<<62-1), number(1))
		b.is(number(1<<62-1), none, "int.sub", great, number(1))
		b.is(number(-4), none, "int.div", number(-7), number(2))
		b.is(number(1), none, "int.mod", number(-7), number(2))
		b.is(value{}, api.ExnDiv, "int.div", number(1), number(0))
		b.is(textOf("~18446744073709551616"), none, "int.text", integer(big.Neg(power2(64))))
		b.is(realOf(math.Float64bits(1<<53)), none, "int.real", number(1<<53+1))
		b.is(number(-1), none, "real.floor", realOf(math.Float64bits(-0.5)))
	})
}

// P16.2: all functions, at all edges, and with the same thing twice; with things outside the heap.
func TestEdges(t *testing.T) {
	both(t, func(b *bench) {
		l := append(edges(), b.away[:3]...)
		for _, x := range l {
			b.one(x)
			b.two(x, x)
			for _, y := range l {
				b.two(x, y)
			}
		}
	})
}

// P16.2: limbs of 0 and of 2^32 - 1 in every place.
func TestLimbs(t *testing.T) {
	both(t, func(b *bench) {
		var l []value
		for n := 2; n <= 7; n++ {
			for place := range n {
				for _, fill := range []uint32{0, 5, math.MaxUint32} {
					for _, limb := range []uint32{0, math.MaxUint32} {
						x := api.Int{Neg: (place+n)%2 == 0, Mag: make([]uint32, n)}
						for i := range x.Mag {
							x.Mag[i] = fill
						}
						x.Mag[n-1] |= 1
						x.Mag[place] = limb
						l = append(l, integer(big.Norm(x)))
					}
				}
			}
		}
		for i, x := range l {
			b.one(x)
			for _, y := range l[i%3:] {
				if b.keeper.r.IntN(3) == 0 {
					b.two(x, y)
				}
			}
		}
	})
}

// P16.2: equal integers that lie at two places, and such that are unlike in one limb alone.
func TestAlike(t *testing.T) {
	both(t, func(b *bench) {
		for n := 2; n <= 9; n++ {
			for range 4 {
				x := random(b.keeper.r, n)
				b.two(integer(x), integer(x))
				b.two(integer(x), integer(big.Neg(x)))
				for i := range x.Mag {
					y := api.Int{Neg: x.Neg, Mag: append([]uint32(nil), x.Mag...)}
					y.Mag[i] ^= 1 << b.keeper.r.IntN(32)
					b.two(integer(x), integer(big.Norm(y)))
					b.two(integer(big.Norm(y)), integer(x))
				}
			}
		}
	})
}

// P16.2: integers at random, of all lengths.
func TestRandom(t *testing.T) {
	both(t, func(b *bench) {
		r := b.keeper.r
		length := func() int { return r.IntN([4]int{4, 10, 40, 700}[r.IntN(4)]) }
		for range 700 {
			x, y := random(r, length()), random(r, length())
			b.two(integer(x), integer(y))
			b.one(integer(x))
		}
	})
}

// P16.2: integers of up to 4096 limbs.
func TestGreat(t *testing.T) {
	both(t, func(b *bench) {
		r := rand.New(rand.NewPCG(4096, 1))
		for range 5 {
			x, y := random(r, 1+r.IntN(4096)), random(r, 1+r.IntN(4096))
			b.two(integer(x), integer(y))
			b.one(integer(x))
		}
		x, y := random(r, 4096), random(r, 4096)
		z := near(x, 1-2*int64(x.Mag[0]&1)) // as many limbs, and all alike but the lowest one
		b.two(integer(x), integer(y))
		b.two(integer(x), integer(z))
		b.two(integer(x), integer(big.Neg(z)))
		b.two(integer(x), number(-7))
		b.two(number(-7), integer(x))
		b.two(integer(x), number(0))
		b.two(number(0), integer(x))
		b.one(integer(x))
	})
}

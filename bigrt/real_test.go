package bigrt

import (
	"math"
	"slices"
	"testing"

	"smithy/api"
	"smithy/big"
)

// P16.2: the reals of integers just at, above and below the half between two reals, whose last bit is 0 or 1.
func TestHalves(t *testing.T) {
	both(t, func(b *bench) {
		r := b.keeper.r
		near53 := []int64{1 << 52, 1<<52 + 1, 1<<53 - 1, 1<<53 - 2, int64(r.Uint64()>>12) | 1<<52}
		for _, moved := range []int{0, 1, 2, 8, 9, 10, 11, 12, 13, 20, 43, 44, 75, 76, 77, 139, 140, 500, 900, 969, 970, 971, 972} {
			for _, m := range near53 {
				x, half := big.Mul(big.Of(m), power2(moved)), big.Of(0)
				if moved > 0 {
					half = power2(moved - 1)
				}
				for _, d := range []api.Int{big.Of(0), big.Of(1), big.Of(-1), half, near(half, 1), near(half, -1), power2(moved / 2), big.Add(half, power2(moved/2)), big.Sub(half, power2(moved/2))} {
					b.one(integer(big.Add(x, d)))
					b.one(integer(big.Neg(big.Add(x, d))))
				}
			}
		}
	})
}

// P16.2: from 2^1024 - 2^970 on it is an infinity; one bit, wherever it is, tells what lies above a half.
func TestInfinities(t *testing.T) {
	both(t, func(b *bench) {
		end := big.Sub(power2(1024), power2(970))
		inf, max := realOf(math.Float64bits(math.Inf(1))), realOf(math.Float64bits(math.MaxFloat64))
		b.is(inf, none, "int.real", integer(end))
		b.is(max, none, "int.real", integer(near(end, -1)))
		b.is(realOf(math.Float64bits(math.Inf(-1))), none, "int.real", integer(big.Neg(end)))
		b.is(realOf(math.Float64bits(-math.MaxFloat64)), none, "int.real", integer(near(big.Neg(end), 1)))
		for _, n := range []int{1023, 1024, 1025, 1055, 1056, 1087, 1088, 32767, 32768, 131071} {
			for _, x := range signed(power2(n)) {
				b.one(integer(near(x, -1)))
				b.one(integer(x))
				b.one(integer(near(x, 1)))
			}
		}
		half := big.Add(power2(1000), power2(947))
		for bit := range 947 {
			b.is(realOf(math.Float64bits(math.Ldexp(1+math.Ldexp(1, -52), 1000))), none, "int.real", integer(big.Add(half, power2(bit))))
		}
		b.is(realOf(math.Float64bits(math.Ldexp(1, 1000))), none, "int.real", integer(half))
	})
}

// reals are bits of reals around which something changes.
func reals() []uint64 {
	out := []uint64{0, 1, 2, 1<<52 - 1, 1 << 52, 1<<52 + 1, math.Float64bits(math.MaxFloat64), math.Float64bits(math.Inf(1)), math.Float64bits(math.Inf(1)) - 1,
		0x7ff0000000000001, 0x7ff7ffffffffffff, 0x7ff8000000000000, 0x7ff8000000000001, 0x7fffffffffffffff, math.Float64bits(math.Pi), math.Float64bits(0.1)}
	for _, x := range []float64{0.25, 0.5, 0.75, 1, 1.5, 2, 2.5, 3, 10, 1e15, 1e300} {
		out = append(out, math.Float64bits(x))
	}
	for k := range 1024 {
		if k < 70 || k%32 < 2 || k%32 == 31 || k > 1020 {
			out = append(out, math.Float64bits(math.Ldexp(1, k)))
		}
	}
	return out
}

// P16.2: reals with both signs, and those next to them.
func TestReals(t *testing.T) {
	both(t, func(b *bench) {
		for _, x := range reals() {
			for _, y := range []uint64{x, x - 1, x + 1} {
				b.real(y)
				b.real(y ^ 1<<63)
			}
		}
		b.is(number(-1), none, "real.floor", realOf(math.Float64bits(-0.5)))
		b.is(number(0), none, "real.floor", realOf(1<<63))
		b.is(number(-1), none, "real.floor", realOf(1<<63|1))
		b.is(number(-1<<62), none, "real.floor", realOf(math.Float64bits(-1<<62)))
		b.is(integer(power2(63)), none, "real.bits", realOf(1<<63))
		b.is(integer(big.Of(0x7ff8000000000000)), none, "real.bits", realOf(0xfff0000000000001))
		b.is(number(-2147483650), none, "real.floor", b.away[3])
	})
}

// P16.2: reals at random; those of few fraction's bits are integers now and then.
func TestRandomReals(t *testing.T) {
	both(t, func(b *bench) {
		r := b.keeper.r
		for range 20000 {
			b.real(r.Uint64() &^ (1<<r.IntN(53) - 1))
			b.real(r.Uint64N(90)<<52 + 1000<<52 | r.Uint64()&^(1<<r.IntN(53)-1)&(1<<63|1<<52-1))
		}
	})
}

// P16.2: the integer that is the floor of an integer's real is the integer, where it has no more than 53 bits.
func TestThereAndBack(t *testing.T) {
	both(t, func(b *bench) {
		r := b.keeper.r
		for range 500 {
			x := big.Mul(big.Of(int64(r.Uint64())>>11), power2(r.IntN(970)))
			v, _ := b.ask("int.real", integer(x))
			b.is(integer(x), none, "real.floor", v)
		}
	})
}

// P16.2: raise, of each exception: the answer is 0, and the word at 24 is what is raised.
func TestRaise(t *testing.T) {
	both(t, func(b *bench) {
		for n := range 8 {
			p := b.load(topAt)
			before, data := b.roots(p), b.allData()
			b.beginCall(p)
			if x := b.run("raise", uint64(n)); x != 0 || b.raised() != n {
				b.Errorf("raise %d: %d, raised %d", n, x, b.raised())
			}
			b.endCall()
			b.write(thrownAt, b.load(b.load(bottomAt)+40))
			if g, h := b.graph(b.roots(p)...), b.allData(); len(g.Roots) != len(before) || !slices.Equal(h, data) {
				b.Errorf("raise %d: the data is not what it was", n)
			}
		}
	})
}

package basisrt

import (
	"fmt"
	"math"
	"math/rand/v2"
	"testing"
)

const theNaN = 0x7ff8000000000000

// edges are reals at which something changes.
func edges() []real {
	out := []real{0, 1, 2, 1<<52 - 1, 1 << 52, 1<<52 + 1, 0x7ff0000000000001, 0x7ff7ffffffffffff, theNaN, theNaN + 1, 0x7fffffffffffffff}
	for _, x := range []float64{1, 1.5, 2, 0.5, 0.1, 1.0 / 3, math.Pi, 1 << 53, 1<<53 - 1, 1e16, 1e300, 1e-300, math.MaxFloat64, math.Inf(1), math.MaxFloat64 / 2, math.Nextafter(1, 0), math.Nextafter(1, 2), math.Ldexp(1, -1074), math.Ldexp(3, -1074)} {
		out = append(out, real(math.Float64bits(x)))
	}
	for _, x := range out {
		out = append(out, x|1<<63)
	}
	return out
}

func bits(x float64) string {
	if math.IsNaN(x) {
		return "7ff8000000000000"
	}
	return fmt.Sprintf("%016x", math.Float64bits(x))
}

// reckonings hold all that is done with two reals.
func (b *bench) reckonings(x, y real) {
	b.Helper()
	base := len(b.stack)
	b.push(x)
	b.push(y)
	p, q := at(base), at(base+1)
	u, w := math.Float64frombits(uint64(x)), math.Float64frombits(uint64(y))
	b.rows(
		row{"radd", v{p, q}, bits(u + w)}, row{"rsub", v{p, q}, bits(u - w)}, row{"rmul", v{p, q}, bits(u * w)}, row{"rdiv", v{p, q}, bits(u / w)},
		row{"rlt", v{p, q}, decimal(one(u < w))}, row{"rle", v{p, q}, decimal(one(u <= w))},
	)
	b.popTo(base)
}

// P17.2: reals at their edges: both zeros, subnormals, halves, infinities, NaNs; what is a NaN is that of all of them, but for rneg.
func TestReals(t *testing.T) {
	both(t, func(b *bench) {
		for _, x := range edges() {
			b.rows(row{"rneg", v{x}, fmt.Sprintf("%016x", uint64(x)^1<<63)})
			for _, y := range edges() {
				b.reckonings(x, y)
			}
		}
		b.rows(row{"rneg", v{far(farReal)}, bits(-1.5)}, row{"radd", v{far(farReal), far(farReal)}, bits(3)})
	})
}

// P17.2: reals at random, also such that are near one another.
func TestRealsAtRandom(t *testing.T) {
	both(t, func(b *bench) {
		r := rand.New(rand.NewPCG(17, 8))
		for range 800 {
			x, y := real(r.Uint64()), real(r.Uint64())
			if r.IntN(3) == 0 {
				y = x + real(r.Uint64N(5)) - 2
			}
			if r.IntN(4) == 0 {
				y = x&^(0x7ff<<52) | real(r.Uint64N(2047))<<52
			}
			b.reckonings(x, y)
			b.rows(row{"rneg", v{x}, fmt.Sprintf("%016x", uint64(x)^1<<63)})
		}
	})
}

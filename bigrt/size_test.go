package bigrt

import (
	"testing"

	"smithy/api"
	"smithy/big"
)

const most = 32 * api.MaxLimbs // bits of the greatest integer that is answered

// size holds a function of two integers, and that it raises Size just where it is told.
func (b *bench) size(raises bool, name string, x, y api.Int) {
	b.Helper()
	want, e := ofTwo(name, x, y)
	if (e == api.ExnSize) != raises {
		b.Fatalf("%s of %d and %d limbs: the test is wrong", name, len(x.Mag), len(y.Mag))
	}
	b.is(want, e, name, integer(x), integer(y))
}

// P16.2: sums and differences, around 2^32768, of arguments that have as many limbs, or more.
func TestSizeOfSums(t *testing.T) {
	both(t, func(b *bench) {
		end := power2(most)
		last, one := near(end, -1), big.Of(1)
		for _, d := range []int{0, 1, 31, 32, 62, 63, 64, 1000, most - 1} {
			y := power2(d)
			x := big.Sub(end, y)
			b.size(true, "int.add", x, y)
			b.size(false, "int.add", near(x, -1), y)
			b.size(true, "int.sub", x, big.Neg(y))
			b.size(true, "int.sub", big.Neg(x), y)
			b.size(false, "int.sub", near(big.Neg(x), 1), y)
			b.size(true, "int.add", y, x)
		}
		for _, n := range []int{most, most + 1, most + 31, most + 32, most + 64, 32*4096 - 1} {
			x := power2(n)
			b.size(true, "int.add", x, one)
			b.size(n > most, "int.sub", x, one)
			b.size(false, "int.sub", x, big.Sub(x, last))
			b.size(true, "int.sub", x, big.Sub(x, end))
			b.size(false, "int.add", big.Neg(x), big.Sub(x, last))
			b.size(true, "int.add", big.Neg(x), big.Sub(x, end))
			b.size(false, "int.sub", x, x)
			b.size(true, "int.sub", x, big.Neg(x))
			b.size(true, "int.add", x, big.Of(0))
			b.size(true, "int.sub", big.Of(0), x)
		}
		b.size(false, "int.add", last, big.Neg(one))
		b.size(true, "int.add", last, one)
		b.size(true, "int.add", big.Neg(last), big.Of(-1))
	})
}

// P16.2: opposites.
func TestSizeOfOpposites(t *testing.T) {
	both(t, func(b *bench) {
		for _, x := range []api.Int{near(power2(most), -1), power2(most), near(power2(most), 1), power2(most - 1), power2(most - 33), power2(most + 31), power2(most + 32), power2(32*4096 - 1)} {
			for _, y := range signed(x) {
				want, raises := limited(big.Neg(y))
				if raises == none != (len(y.Mag) <= 1024) {
					b.Fatal("the test is wrong")
				}
				b.is(want, raises, "int.neg", integer(y))
			}
		}
	})
}

// P16.2: products, of all pairs of lengths that are near enough, with the least and the greatest highest limbs.
func TestSizeOfProducts(t *testing.T) {
	both(t, func(b *bench) {
		for _, n := range []int{0, 1, 2, 3, 31, 32, 33, 62, 63, 64, 65, 512, 1000, most/2 - 1, most / 2, most/2 + 32} {
			x, rest := power2(n), power2(most-n)
			b.size(true, "int.mul", x, rest)
			b.size(false, "int.mul", x, near(rest, -1))
			b.size(true, "int.mul", big.Neg(rest), x)
			b.size(n < most/2, "int.mul", near(x, 1), near(rest, -1))
			b.size(false, "int.mul", power2(max(n-1, 0)), power2(most-max(n, 1)))
		}
		for _, n := range []int{1, 2, 3, 4, 5, 511, 512, 513, 1022, 1023, 1024} {
			least, greatest := power2(32*n-32), near(power2(32*n), -1)
			for _, m := range []int{1024 - n, 1025 - n, 1026 - n} {
				if m > 0 {
					b.size(m > 1025-n, "int.mul", least, power2(32*m-32))
					b.size(m > 1025-n, "int.mul", least, near(power2(32*m), -1))
					b.size(m >= 1025-n && (n > 1 || m > 1), "int.mul", greatest, near(power2(32*m), -1))
				}
			}
		}
		for _, n := range []int{1025, 1026, 2000, 4096} {
			x := near(power2(32*n), -1)
			b.size(true, "int.mul", x, big.Of(-1))
			b.size(true, "int.mul", x, x)
			b.size(false, "int.mul", x, big.Of(0))
			b.size(false, "int.mul", big.Of(0), x)
		}
	})
}

// P16.2: quotients and rests of arguments up to 4096 limbs.
func TestSizeOfQuotients(t *testing.T) {
	both(t, func(b *bench) {
		end, r := power2(most), b.keeper.r
		for _, m := range []int{1, 2, 3, 4, 64, 1023, 1024, 1025, 3072} {
			y := big.Abs(random(r, m))
			x := big.Mul(y, end)
			b.size(true, "int.div", x, y)
			b.size(false, "int.div", near(x, -1), y)
			b.size(true, "int.div", near(x, 1), big.Neg(y))
			exact := big.Sub(x, y) // the quotient is 2^32768 - 1
			b.size(false, "int.div", exact, big.Neg(y))
			b.size(true, "int.div", near(exact, 1), big.Neg(y))
			b.size(true, "int.div", big.Neg(near(exact, 1)), y)
			b.size(false, "int.div", near(exact, 1), y)
			b.size(m > 1024, "int.mod", big.Add(x, near(y, -1)), y)
			b.size(m > 1024, "int.mod", big.Of(1), big.Neg(y))
			b.size(false, "int.mod", big.Neg(x), y)
		}
		for _, n := range []int{1025, 1026, 1027, 2000, 4096} {
			x := big.Abs(random(r, n))
			b.size(n > 1025, "int.div", x, near(power2(n%2*32), 1<<31))
			b.size(false, "int.div", x, x)
			b.size(false, "int.div", big.Of(5), x)
			b.size(false, "int.mod", x, big.Of(-3))
			b.size(true, "int.mod", x, big.Mul(x, big.Of(2)))
			b.size(false, "int.mod", near(x, 1), x)
		}
		y := power2(32 * 2000) // rests of 1024 and 1025 limbs, by a divisor of more
		for _, x := range []api.Int{power2(32 * 4095), big.Neg(power2(32 * 4095)), big.Of(0)} {
			b.size(false, "int.mod", big.Add(x, near(end, -1)), y)
			b.size(true, "int.mod", big.Add(x, end), y)
			b.size(false, "int.mod", big.Sub(x, near(end, -1)), big.Neg(y))
			b.size(true, "int.mod", big.Sub(x, end), big.Neg(y))
			b.size(true, "int.mod", big.Sub(x, end), y)
		}
	})
}

package bigrt

import (
	"strings"
	"testing"

	"smithy/api"
	"smithy/big"
)

// power10 is 10^n.
func power10(t *testing.T, n int) api.Int {
	t.Helper()
	out, e := big.Parse("1" + strings.Repeat("0", n))
	if e != api.OK {
		t.Fatal(e)
	}
	return out
}

// P16.2: texts where the number of digits, of rows of digits, of words changes.
func TestTexts(t *testing.T) {
	both(t, func(b *bench) {
		for n := range 130 {
			for _, d := range []int64{-1, 0, 1} {
				for _, x := range append(signed(near(power10(b.T, n), d)), signed(near(power2(3*n), d))...) {
					want, raises := ofOne("int.text", x)
					b.is(want, raises, "int.text", integer(x))
				}
			}
		}
		b.is(textOf("0"), none, "int.text", number(0))
		b.is(textOf("~1"), none, "int.text", number(-1))
		b.is(textOf("~4611686018427387904"), none, "int.text", number(-1<<62))
		b.is(textOf("~18446744073709551616"), none, "int.text", integer(big.Neg(power2(64))))
	})
}

// P16.2: digits of all kinds in all places: rows of noughts and of nines between others.
func TestDigits(t *testing.T) {
	both(t, func(b *bench) {
		r := b.keeper.r
		for range 400 {
			s := ""
			for range 1 + r.IntN(9) {
				s += [6]string{strings.Repeat("0", 19), strings.Repeat("9", 19), "0", "9", "1", strings.Repeat("0", r.IntN(40)) + "8"}[r.IntN(6)]
			}
			x, e := big.Parse("5" + s)
			if e != api.OK {
				b.Fatal(e)
			}
			b.is(textOf("5"+s), none, "int.text", integer(x))
			b.is(textOf("~5"+s), none, "int.text", integer(big.Neg(x)))
		}
	})
}

// P16.2: texts of the greatest integers, and of those whose rows need the most room beside their words.
func TestLongTexts(t *testing.T) {
	both(t, func(b *bench) {
		for _, n := range []int{512, 1000, 2000, 4095, 4096} {
			for _, x := range []api.Int{near(power2(32*n), -1), power2(32*n - 1), big.Neg(power2(32*n - 32))} {
				want, raises := ofOne("int.text", x)
				b.is(want, raises, "int.text", integer(x))
			}
		}
	})
}

// P16.2: each number of words up to a bound: rows and words never meet.
func TestRoomOfRows(t *testing.T) {
	t.Parallel()
	b := newKept(t, 7, false)
	for words := 1; words <= 300; words++ {
		x := near(power2(64*words), -1)
		want, raises := ofOne("int.text", x)
		b.is(want, raises, "int.text", integer(x))
	}
}

// Chapter 10: a text that is too long raises Size, as texts of integers that a program itself has may be.
func TestTooLongTexts(t *testing.T) {
	t.Parallel()
	b := newKept(t, 9, false)
	end := power10(t, api.MaxString) // the least number whose text is too long
	tenth := power10(t, api.MaxString-1)
	for _, x := range []api.Int{near(end, -1), tenth, big.Neg(near(tenth, -1))} {
		b.is(textOf(big.Text(x)), none, "int.text", integer(x))
	}
	for _, x := range []api.Int{end, near(power2(64*3402), -1), power2(64 * 3402), power2(32 * 9000), big.Neg(tenth), big.Neg(power2(32 * 9000))} {
		b.is(value{}, api.ExnSize, "int.text", integer(x))
	}
}

package big_test

import (
	"slices"
	"sync"
	"testing"

	"smithy/api"
	"smithy/big"
)

// roomy is a copy of a with room behind its limbs that says what was there.
func roomy(a api.Int) api.Int {
	mag := append(slices.Clone(a.Mag), 0xABCDEF01, 0xABCDEF02)
	return api.Int{Neg: a.Neg, Mag: mag[:len(a.Mag)]}
}

// whole are a's limbs, with those in the room behind them.
func whole(a api.Int) []uint32 { return slices.Clone(a.Mag[:len(a.Mag)+2]) }

// answers are what the calls answer of two numbers.
func answers(a, b api.Int) []api.Int {
	q, r, _ := big.DivMod(a, b)
	big.Valid(a)
	big.Int64(a)
	big.Sign(a)
	big.Cmp(a, b)
	big.Text(a)
	return []api.Int{big.Norm(a), big.Neg(a), big.Abs(a), big.Add(a, b), big.Sub(a, b), big.Mul(a, b), q, r}
}

// scribble writes into an answer, as far as its room goes.
func scribble(a api.Int) {
	mag := a.Mag[:cap(a.Mag)]
	for i := range mag {
		mag[i] ^= 0x55555555
	}
}

// R3: arguments are not written, and answers share no memory with them, nor with one another.
func TestSharesNothing(t *testing.T) {
	for _, x := range samples() {
		for _, y := range samples() {
			a, b := roomy(x), roomy(y)
			wholeA, wholeB := whole(a), whole(b)
			got := answers(a, b)
			var said []string
			for _, z := range got {
				said = append(said, big.Text(z))
			}
			for i, z := range got {
				for j := i; j < len(got); j++ {
					if big.Text(got[j]) != said[j] {
						t.Fatalf("answers of %v, %v: number %d shares memory with an earlier one", x, y, j)
					}
				}
				scribble(z)
			}
			if !slices.Equal(whole(a), wholeA) || !slices.Equal(whole(b), wholeB) {
				t.Fatalf("%v, %v: an argument is written, or shared", x, y)
			}
		}
	}
}

// R3: the same limbs may be handed in twice.
func TestSameTwice(t *testing.T) {
	for _, x := range samples() {
		a := roomy(x)
		before := whole(a)
		for _, z := range answers(a, a) {
			scribble(z)
		}
		if !slices.Equal(whole(a), before) {
			t.Fatalf("%v: an argument is written, or shared", x)
		}
	}
}

// R3: an empty list is a nil one; and no answer has room behind its limbs.
func TestCutOff(t *testing.T) {
	for _, a := range samples() {
		for _, b := range samples() {
			parsed, _ := big.Parse(big.Text(a))
			for i, z := range append(answers(a, b), parsed, big.Of(5), big.Of(0)) {
				if len(z.Mag) == 0 && z.Mag != nil || cap(z.Mag) != len(z.Mag) {
					t.Fatalf("answer %d of %v, %v: %d limbs, room for %d", i, a, b, len(z.Mag), cap(z.Mag))
				}
			}
		}
	}
}

// R4: many hands at the same time, each with numbers of its own, are answered as one alone is.
func TestManyHands(t *testing.T) {
	var want []string
	for _, z := range answersOfAll() {
		want = append(want, big.Text(z))
	}
	var hands sync.WaitGroup
	for range 8 {
		hands.Go(func() {
			for i, z := range answersOfAll() {
				if big.Text(z) != want[i] {
					t.Errorf("answer %d: %s, alone %s", i, big.Text(z), want[i])
				}
			}
		})
	}
	hands.Wait()
}

func answersOfAll() []api.Int {
	all := samples()
	var out []api.Int
	for i := range all {
		out = append(out, answers(all[i], all[len(all)-1-i])...)
	}
	return out
}

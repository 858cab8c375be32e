package rounds

import (
	"math/rand/v2"
	"slices"
	"testing"
)

// What waits comes once, by rising numbers, and what is added behind the last one in the same round.
func TestRounds(t *testing.T) {
	r := New(130)
	if n, is := r.Next(); is || n != 0 {
		t.Fatal(n, is)
	}
	var got []int
	for _, n := range []int{129, 5, 64, 63, 5, 0} {
		r.Add(n)
	}
	for n, is := r.Next(); is; n, is = r.Next() {
		got = append(got, n)
		if n == 63 && len(got) < 5 {
			r.Add(63)
			r.Add(2)
			r.Add(70)
		}
	}
	if want := []int{0, 5, 63, 64, 70, 129, 2, 63}; !slices.Equal(got, want) {
		t.Fatal(got)
	}
	r.Add(7)
	r.Add(9)
	r.Next()
	r.Clear()
	if n, is := r.Next(); is {
		t.Fatal(n)
	}
	r.Add(3)
	if n, is := r.Next(); !is || n != 3 {
		t.Fatal(n, is)
	}
}

// Of any numbers it is a list that is searched.
func TestRandomRounds(t *testing.T) {
	for seed := range uint64(300) {
		x := rand.New(rand.NewPCG(seed, 1))
		size := 1 + x.IntN(200)
		r, waits, at := New(size), map[int]bool{}, 0
		for range 300 {
			if x.IntN(2) == 0 {
				n := x.IntN(size)
				r.Add(n)
				waits[n] = true
				continue
			}
			want, is := 0, len(waits) > 0
			for i := range size {
				if n := (at + i) % size; waits[n] {
					want, at = n, n+1
					break
				}
			}
			delete(waits, want)
			if !is {
				at = 0
			}
			if n, got := r.Next(); n != want || got != is {
				t.Fatal(seed, n, got, want, is)
			}
		}
	}
}

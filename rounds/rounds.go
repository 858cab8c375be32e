// Package rounds keeps what has to be looked at, and perhaps again, as what others are found to be changes it.
package rounds

import "math/bits"

// Rounds are numbers that wait. They come in rounds, by rising numbers: what is added behind the last one comes in the same round, so
// that something that goes forth mostly is found in few of them.
type Rounds struct {
	waits []uint64
	at    int // the last one came ahead of this
	count int
}

// New has room for so many numbers, from 0 on. None waits.
func New(n int) *Rounds { return &Rounds{waits: make([]uint64, (n+63)/64)} }

// Add lets a number wait; it may wait already.
func (r *Rounds) Add(n int) {
	bit := uint64(1) << (n % 64)
	if r.waits[n/64]&bit == 0 {
		r.waits[n/64] |= bit
		r.count++
	}
}

// Next is the one that comes, which waits no longer; none, if none waits: a new round begins then.
func (r *Rounds) Next() (int, bool) {
	if r.count == 0 {
		r.at = 0
		return 0, false
	}
	if r.at == 64*len(r.waits) {
		r.at = 0
	}
	w := r.at / 64
	for left := r.waits[w] >> (r.at % 64) << (r.at % 64); ; left = r.waits[w] {
		if left != 0 {
			n := 64*w + bits.TrailingZeros64(left)
			r.waits[w] &^= 1 << (n % 64)
			r.count--
			r.at = n + 1
			return n, true
		}
		if w++; w == len(r.waits) {
			w = 0
		}
	}
}

// Clear lets none wait.
func (r *Rounds) Clear() {
	for r.count > 0 {
		r.Next()
	}
	r.at = 0
}

// Package big is integers of any size.
package big

import (
	"cmp"
	"slices"

	"smithy/api"
)

// Of is a number.
func Of(n int64) api.Int {
	m := uint64(n)
	if n < 0 {
		m = -m // the opposite of -2^63 has room among unsigned ones alone
	}
	return made(n < 0, []uint32{uint32(m), uint32(m >> 32)})
}

// Norm is the same number, as it stands.
func Norm(a api.Int) api.Int { return made(a.Neg, slices.Clone(trim(a.Mag))) }

// Valid tells whether it stands so.
func Valid(a api.Int) bool {
	if len(a.Mag) == 0 {
		return !a.Neg
	}
	return len(trim(a.Mag)) == len(a.Mag)
}

// Int64 is its value, if it has room.
func Int64(a api.Int) (int64, bool) {
	mag := trim(a.Mag)
	if len(mag) > 2 {
		return 0, false
	}
	var m uint64
	for i, limb := range mag {
		m |= uint64(limb) << (32 * i)
	}
	switch {
	case a.Neg && m <= 1<<63:
		return int64(-m), true
	case !a.Neg && m < 1<<63:
		return int64(m), true
	}
	return 0, false
}

// Sign is -1, 0, 1.
func Sign(a api.Int) int {
	switch {
	case len(trim(a.Mag)) == 0:
		return 0
	case a.Neg:
		return -1
	}
	return 1
}

// Cmp is -1, 0, 1.
func Cmp(a, b api.Int) int {
	s, t := Sign(a), Sign(b)
	switch {
	case s != t:
		return cmp.Compare(s, t)
	case s < 0:
		return compare(trim(b.Mag), trim(a.Mag))
	}
	return compare(trim(a.Mag), trim(b.Mag))
}

// Neg is the opposite.
func Neg(a api.Int) api.Int { return made(!a.Neg, slices.Clone(trim(a.Mag))) }

// Abs is the magnitude.
func Abs(a api.Int) api.Int { return made(false, slices.Clone(trim(a.Mag))) }

// Add is the sum.
func Add(a, b api.Int) api.Int {
	x, y := trim(a.Mag), trim(b.Mag)
	switch {
	case a.Neg == b.Neg:
		return made(a.Neg, sum(x, y))
	case compare(x, y) < 0:
		return made(b.Neg, difference(y, x))
	}
	return made(a.Neg, difference(x, y))
}

// Sub is the difference.
func Sub(a, b api.Int) api.Int { return Add(a, api.Int{Neg: !b.Neg, Mag: b.Mag}) }

// Mul is the product.
func Mul(a, b api.Int) api.Int {
	return made(a.Neg != b.Neg, product(trim(a.Mag), trim(b.Mag)))
}

// DivMod is the quotient, cut downwards, and what is left.
func DivMod(a, b api.Int) (q, r api.Int, e api.Errno) {
	x, y := trim(a.Mag), trim(b.Mag)
	if len(y) == 0 {
		return api.Int{}, api.Int{}, api.ErrZero
	}
	quotient, rest := divide(x, y)
	q, r = made(a.Neg != b.Neg, quotient), made(a.Neg, rest)
	if a.Neg != b.Neg && Sign(r) != 0 {
		// Magnitudes are cut towards 0; below 0 that is one above the quotient cut downwards.
		q, r = Sub(q, Of(1)), Add(r, b)
	}
	return q, r, api.OK
}

// made is the number of a sign and limbs that nobody else holds, as it should stand.
func made(neg bool, mag []uint32) api.Int {
	mag = trim(mag)
	return api.Int{Neg: neg && len(mag) > 0, Mag: mag}
}

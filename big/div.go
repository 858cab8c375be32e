package big

import (
	"math/bits"
	"slices"
)

// divide is the quotient of x and y, cut towards 0, and what is left; y is not 0.
func divide(x, y []uint32) (quotient, rest []uint32) {
	switch {
	case compare(x, y) < 0:
		return nil, slices.Clone(x)
	case len(y) == 1:
		quotient = slices.Clone(x)
		return quotient, []uint32{divideBy(quotient, y[0])}
	}
	return divideLong(x, y)
}

// divideBy puts its quotient by d in mag's place, and answers what is left.
func divideBy(mag []uint32, d uint32) uint32 {
	var rest uint64
	for i := len(mag) - 1; i >= 0; i-- {
		rest = rest<<32 | uint64(mag[i])
		mag[i] = uint32(rest / uint64(d))
		rest %= uint64(d)
	}
	return uint32(rest)
}

// divideLong divides limb by limb, as by hand; y has at least two limbs, and x no fewer.
func divideLong(x, y []uint32) (quotient, rest []uint32) {
	// With y's highest bit set, a guess is at most one too great.
	shift := bits.LeadingZeros32(y[len(y)-1])
	rest, y = shifted(x, shift), shifted(y, shift)[:len(y)]
	quotient = make([]uint32, len(x)-len(y)+1)
	for i := len(quotient) - 1; i >= 0; i-- {
		piece := rest[i : i+len(y)+1]
		digit := guess(piece, y)
		if takeMultiple(piece, y, digit) != 0 {
			// What is carried beyond the piece's end makes up for what it lacked.
			digit--
			addInto(piece, y)
		}
		quotient[i] = uint32(digit)
	}
	shiftBack(rest, shift)
	return quotient, rest
}

// guess is how often y goes into piece, which is a limb longer, or one more: reckoned from their highest limbs alone. The answer is below 2^32.
func guess(piece, y []uint32) uint64 {
	n := len(y)
	first, second := uint64(y[n-1]), uint64(y[n-2])
	high := uint64(piece[n])<<32 | uint64(piece[n-1])
	digit := min(high/first, 1<<32-1)
	left := high - digit*first
	for left < 1<<32 && digit*second > left<<32|uint64(piece[n-2]) {
		digit--
		left += first
	}
	return digit
}

// takeMultiple takes digit times y (digit below 2^32) from out, which is at least as long, and answers what it lacks: not 0, if that was too much.
func takeMultiple(out, y []uint32, digit uint64) uint64 {
	var lack uint64
	for i := range out {
		if i < len(y) {
			lack += digit * uint64(y[i])
		}
		low := uint32(lack)
		lack >>= 32
		if out[i] < low {
			lack++
		}
		out[i] -= low
	}
	return lack
}

// shifted is mag moved up by fewer than 32 bits, a limb longer.
func shifted(mag []uint32, shift int) []uint32 {
	out := make([]uint32, len(mag)+1)
	var carry uint64
	for i, limb := range mag {
		carry |= uint64(limb) << shift
		out[i] = uint32(carry)
		carry >>= 32
	}
	out[len(mag)] = uint32(carry)
	return out
}

// shiftBack moves mag down in its place by fewer than 32 bits, which are noughts.
func shiftBack(mag []uint32, shift int) {
	for i := range mag {
		both := uint64(mag[i])
		if i+1 < len(mag) {
			both |= uint64(mag[i+1]) << 32
		}
		mag[i] = uint32(both >> shift)
	}
}

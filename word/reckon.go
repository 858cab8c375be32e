package word

import (
	"math"
	"math/bits"

	"smithy/api"
)

// ofWords is what a kind makes of two words; false, if it sticks.
func ofWords(kind int, a, b uint64) (uint64, bool) {
	switch kind {
	case api.WordAdd:
		return a + b, true
	case api.WordSub:
		return a - b, true
	case api.WordMul:
		return a * b, true
	case api.WordHigh:
		high, _ := bits.Mul64(a, b)
		return high, true
	case api.WordAnd:
		return a & b, true
	case api.WordOr:
		return a | b, true
	case api.WordXor:
		return a ^ b, true
	case api.WordShl:
		return a << (b % 64), true
	case api.WordShr:
		return a >> (b % 64), true
	case api.WordSar:
		return uint64(int64(a) >> (b % 64)), true
	}
	switch {
	case kind == api.WordDiv && b != 0:
		return a / b, true
	case kind == api.WordRem && b != 0:
		return a % b, true
	}
	return 0, false
}

// holds tells whether a condition of two words holds.
func holds(cond int, a, b uint64) bool {
	switch cond {
	case api.CondEq:
		return a == b
	case api.CondNe:
		return a != b
	case api.CondLt:
		return int64(a) < int64(b)
	case api.CondLe:
		return int64(a) <= int64(b)
	case api.CondLtu:
		return a < b
	}
	return a <= b
}

func one(is bool) uint64 {
	if is {
		return 1
	}
	return 0
}

// theNaN are the bits of every real that is none.
const theNaN = 0x7ff8000000000000

// ofReals is what is made of two words as the bits of reals.
func ofReals(how int, x, y uint64) uint64 {
	a, b := math.Float64frombits(x), math.Float64frombits(y)
	switch how {
	case api.RealAdd:
		return realBits(a + b)
	case api.RealSub:
		return realBits(a - b)
	case api.RealMul:
		return realBits(a * b)
	case api.RealDiv:
		return realBits(a / b)
	case api.RealLt:
		return one(a < b)
	case api.RealLe:
		return one(a <= b)
	case api.RealEq:
		return one(a == b)
	}
	return realBits(float64(int64(x)))
}

func realBits(r float64) uint64 {
	if math.IsNaN(r) {
		return theNaN
	}
	return math.Float64bits(r)
}

package lex

import (
	"math"
	"strconv"
	"strings"

	"smithy/api"
	"smithy/big"
)

// maxReal is how many bytes a real may have.
const maxReal = 100

// numberAt is an integer; with a dot or an exponent a real.
func numberAt(text string, at int) (Token, int, api.Mishap) {
	digits := at
	if text[at] == '~' {
		digits++
	}
	whole := behindAll(text, digits, isDigit)
	end := behindExponent(text, behindFraction(text, whole))
	if end == whole {
		return integerAt(text, at, end)
	}
	return realAt(text, at, end)
}

func integerAt(text string, at, end int) (Token, int, api.Mishap) {
	word, behind, mishap := limited(Int, text, at, end, api.MaxDigits)
	if mishap.Code == api.OK {
		word.Int = integer(word.Text)
	}
	return word, behind, mishap
}

func realAt(text string, at, end int) (Token, int, api.Mishap) {
	word, behind, mishap := limited(Real, text, at, end, maxReal)
	if mishap.Code == api.OK {
		word.Bits = realBits(word.Text)
	}
	return word, behind, mishap
}

// behindFraction is the place behind a dot and digits; at itself, if they don't stand there.
func behindFraction(text string, at int) int {
	if byteAt(text, at) == '.' && isDigit(byteAt(text, at+1)) {
		return behindAll(text, at+1, isDigit)
	}
	return at
}

// behindExponent is the place behind an exponent; at itself, if none stands there.
func behindExponent(text string, at int) int {
	if byteAt(text, at) != 'e' {
		return at
	}
	digits := at + 1
	if byteAt(text, digits) == '~' {
		digits++
	}
	if !isDigit(byteAt(text, digits)) {
		return at
	}
	return behindAll(text, digits, isDigit)
}

// integer is the number that digits say, with ~ ahead perhaps.
func integer(word string) api.Int {
	digits, below := strings.CutPrefix(word, "~")
	// The last digit stays, so that noughts alone are the text of 0: big reads no noughts ahead.
	ahead := strings.TrimLeft(digits[:len(digits)-1], "0")
	n, _ := big.Parse(ahead + digits[len(digits)-1:])
	if below {
		return big.Neg(n)
	}
	return n
}

// realBits are the bits of the real that is nearest to what the word says.
func realBits(word string) uint64 {
	// The error tells of a number beyond the greatest real; the infinity that comes with it is what is asked for.
	x, _ := strconv.ParseFloat(strings.ReplaceAll(word, "~", "-"), 64)
	return math.Float64bits(x)
}

package big

import (
	"slices"
	"strings"

	"smithy/api"
)

// Digits go in groups: as many as one limb has room for.
const (
	groupDigits = 9
	groupSize   = 1000000000
)

// Text is its decimal text.
func Text(a api.Int) string {
	mag := trim(a.Mag)
	if len(mag) == 0 {
		return "0"
	}
	text := digitsFromLeast(mag)
	if a.Neg {
		text = append(text, '~')
	}
	slices.Reverse(text)
	return string(text)
}

// digitsFromLeast are mag's decimal digits, the least first, without noughts behind them.
func digitsFromLeast(mag []uint32) []byte {
	left := slices.Clone(mag)
	var digits []byte
	for len(left) > 0 {
		group := divideBy(left, groupSize)
		left = trim(left)
		for range groupDigits {
			digits = append(digits, byte('0'+group%10))
			group /= 10
		}
	}
	for len(digits) > 0 && digits[len(digits)-1] == '0' {
		digits = digits[:len(digits)-1]
	}
	return digits
}

// Parse is the number of a decimal text.
func Parse(s string) (api.Int, api.Errno) {
	digits, neg := strings.CutPrefix(s, "~")
	if !allDigits(digits) || digits[0] == '0' && s != "0" {
		return api.Int{}, api.ErrForm
	}
	return made(neg, magnitudeOf(digits)), api.OK
}

// allDigits tells whether s is decimal digits, one or more.
func allDigits(s string) bool {
	for i := range len(s) {
		if s[i] < '0' || s[i] > '9' {
			return false
		}
	}
	return len(s) > 0
}

// magnitudeOf is the magnitude that decimal digits say.
func magnitudeOf(digits string) []uint32 {
	var mag []uint32
	for len(digits) > 0 {
		// The first group is the short one, so that all behind it are whole.
		n := (len(digits)-1)%groupDigits + 1
		var group uint32
		for i := range n {
			group = group*10 + uint32(digits[i]-'0')
		}
		mag = multiplyAdd(mag, groupSize, group)
		digits = digits[n:]
	}
	return mag
}

// multiplyAdd puts mag times factor, and more, in mag's place, a limb longer if it must be.
func multiplyAdd(mag []uint32, factor, more uint32) []uint32 {
	carry := uint64(more)
	for i, limb := range mag {
		carry += uint64(limb) * uint64(factor)
		mag[i] = uint32(carry)
		carry >>= 32
	}
	if carry > 0 {
		mag = append(mag, uint32(carry))
	}
	return mag
}

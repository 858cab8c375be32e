package big_test

import (
	"math/rand"
	"strconv"
	"strings"

	"smithy/api"
)

// The oracle reckons with decimal texts, digit by digit, and has nothing in common with the package's limbs.

// strip leaves out noughts ahead.
func strip(d string) string {
	d = strings.TrimLeft(d, "0")
	if d == "" {
		return "0"
	}
	return d
}

func digitAt(d string, i int) int {
	if i >= len(d) {
		return 0
	}
	return int(d[len(d)-1-i] - '0')
}

func fromDigits(least []int) string {
	out := make([]byte, len(least))
	for i, x := range least {
		out[len(least)-1-i] = byte('0' + x)
	}
	return strip(string(out))
}

func plusDigits(a, b string) string {
	out := make([]int, max(len(a), len(b))+1)
	carry := 0
	for i := range out {
		carry += digitAt(a, i) + digitAt(b, i)
		out[i], carry = carry%10, carry/10
	}
	return fromDigits(out)
}

func lessDigits(a, b string) bool {
	if len(a) != len(b) {
		return len(a) < len(b)
	}
	return a < b
}

// minusDigits is a - b, where b is not above a.
func minusDigits(a, b string) string {
	out := make([]int, len(a))
	borrow := 0
	for i := range out {
		x := digitAt(a, i) - digitAt(b, i) - borrow
		borrow = 0
		if x < 0 {
			x, borrow = x+10, 1
		}
		out[i] = x
	}
	return fromDigits(out)
}

func timesDigits(a, b string) string {
	out := make([]int, len(a)+len(b))
	for i := range len(a) {
		for j := range len(b) {
			out[i+j] += digitAt(a, i) * digitAt(b, j)
		}
	}
	for i := range len(out) - 1 {
		out[i+1] += out[i] / 10
		out[i] %= 10
	}
	return fromDigits(out)
}

// signed is the text of a magnitude's digits and a sign.
func signed(neg bool, d string) string {
	if neg && d != "0" {
		return "~" + d
	}
	return d
}

func split(s string) (bool, string) {
	d, neg := strings.CutPrefix(s, "~")
	return neg, d
}

func plus(s, t string) string {
	m, a := split(s)
	n, b := split(t)
	switch {
	case m == n:
		return signed(m, plusDigits(a, b))
	case lessDigits(a, b):
		return signed(n, minusDigits(b, a))
	}
	return signed(m, minusDigits(a, b))
}

func opposite(s string) string {
	neg, d := split(s)
	return signed(!neg, d)
}

func minus(s, t string) string { return plus(s, opposite(t)) }

func times(s, t string) string {
	m, a := split(s)
	n, b := split(t)
	return signed(m != n, timesDigits(a, b))
}

func signOf(s string) int {
	switch {
	case s == "0":
		return 0
	case s[0] == '~':
		return -1
	}
	return 1
}

// says is the text of the number that limbs say, whether they stand as they should or not.
func says(a api.Int) string {
	d := "0"
	for i := len(a.Mag) - 1; i >= 0; i-- {
		d = plusDigits(timesDigits(d, "4294967296"), strconv.Itoa(int(a.Mag[i])))
	}
	return signed(a.Neg, d)
}

// samples are numbers of every kind: no limbs, one and many, with noughts at the end, 0 below 0, limbs at their edges.
func samples() []api.Int {
	mags := [][]uint32{
		nil, {}, {0}, {0, 0, 0}, {1}, {2}, {5, 0}, {9}, {10, 0, 0}, {999999999}, {1000000000}, {1<<32 - 1},
		{0, 1}, {1, 1}, {1<<32 - 1, 1<<31 - 1}, {0, 1 << 31}, {1, 1 << 31}, {1<<32 - 1, 1<<32 - 1},
		{0, 0, 1}, {0, 0, 1 << 31}, {1, 0, 1 << 31}, {0, 0, 1 << 31, 1<<31 - 1}, {3, 0, 1 << 31}, {1, 0, 1 << 29},
		{1<<32 - 1, 1<<32 - 1, 1<<32 - 1, 1<<32 - 1, 0}, {0, 1<<32 - 2, 1 << 31}, {1<<32 - 1, 1 << 31},
	}
	r := rand.New(rand.NewSource(1))
	for range 12 {
		mag := make([]uint32, 1+r.Intn(9))
		for i := range mag {
			mag[i] = r.Uint32()
		}
		mags = append(mags, mag)
	}
	var out []api.Int
	for _, m := range mags {
		out = append(out, api.Int{Mag: m}, api.Int{Neg: true, Mag: m})
	}
	return out
}

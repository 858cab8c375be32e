package syntax

import (
	"math"
	"strconv"
	"strings"
)

// quoted is a text as a word.
func quoted(s string) string {
	var out strings.Builder
	out.WriteByte('"')
	for i := range len(s) {
		out.WriteString(escaped(s[i]))
	}
	out.WriteByte('"')
	return out.String()
}

// charText is a character as a word.
func charText(n int) string { return `#"` + escaped(byte(n)) + `"` }

// escaped is a byte within quotes.
func escaped(b byte) string {
	switch {
	case b == '\n':
		return `\n`
	case b == '\t':
		return `\t`
	case b == '"' || b == '\\':
		return `\` + string(rune(b))
	case b < ' ' || b > '~':
		digits := strconv.Itoa(int(b))
		return `\` + strings.Repeat("0", 3-len(digits)) + digits
	}
	return string(rune(b))
}

// mostPlain is how many bytes a real takes, at most, before it is written with a power of ten.
const mostPlain = 20

// realText is a real as a word; what is no number, which no word says, as 0.
func realText(bits uint64, tight bool) string {
	x := math.Abs(math.Float64frombits(bits))
	sign := ""
	if bits>>63 != 0 {
		sign = "~"
	}
	switch {
	case math.IsInf(x, 0):
		return sign + "1e309"
	case math.IsNaN(x):
		return sign + "0.0"
	}
	digits, point := shortest(x)
	plain, power := plainReal(digits, point), powerReal(digits, point)
	if len(plain) > mostPlain || tight && len(power) < len(plain) {
		return sign + power
	}
	return sign + plain
}

// shortest is the fewest digits that tell a real, and how many of them stand ahead of its point.
func shortest(x float64) (digits string, point int) {
	mantissa, exponent, _ := strings.Cut(strconv.FormatFloat(x, 'e', -1, 64), "e")
	power, _ := strconv.Atoi(exponent)
	return strings.Replace(mantissa, ".", "", 1), power + 1
}

func plainReal(digits string, point int) string {
	switch {
	case point <= 0:
		return "0." + strings.Repeat("0", -point) + digits
	case point < len(digits):
		return digits[:point] + "." + digits[point:]
	}
	return digits + strings.Repeat("0", point-len(digits)) + ".0"
}

func powerReal(digits string, point int) string {
	power := point - len(digits)
	if power < 0 {
		return digits + "e~" + strconv.Itoa(-power)
	}
	return digits + "e" + strconv.Itoa(power)
}

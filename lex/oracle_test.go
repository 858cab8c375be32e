package lex_test

import (
	"math"
	"math/rand"
	"regexp"
	"slices"
	"strconv"
	"strings"
	"testing"

	"smithy/api"
	"smithy/big"
	"smithy/lex"
)

// The oracle cuts by regular expressions that say what the document's words say; it asks the package nothing.

var (
	blanks  = regexp.MustCompile(`^[ \t\n\r]+`)
	part    = regexp.MustCompile(`^[A-Za-z][A-Za-z0-9_']*`)
	more    = regexp.MustCompile(`^\.[A-Za-z][A-Za-z0-9_']*`)
	number  = regexp.MustCompile(`^~?[0-9]+(\.[0-9]+)?(e~?[0-9]+)?`)
	inner   = regexp.MustCompile(`^"(?:[ !#-\[\]-~]|\\[nt\\"]|\\(?:[01][0-9][0-9]|2[0-4][0-9]|25[0-5]))*`)
	tyvar   = regexp.MustCompile(`^''?[A-Za-z][A-Za-z0-9_']*`)
	symbols = regexp.MustCompile("^[!%&$#+\\-/:<=>?@\\\\~`^|*]+")
	escapes = regexp.MustCompile(`\\([0-9]{3}|.)`)
)

func oracle(text string) ([]lex.Token, api.Mishap) {
	if len(text) > 65536 {
		return nil, api.Mishap{Code: 2}
	}
	var out []lex.Token
	at := 0
	for at < len(text) {
		rest := text[at:]
		if b := blanks.FindString(rest); b != "" {
			at += len(b)
			continue
		}
		if strings.HasPrefix(rest, "(*") {
			n := remark(rest)
			if n == 0 {
				return nil, api.Mishap{Code: 31, At: len(text)}
			}
			at += n
			continue
		}
		word, n, m := first(rest)
		if m.Code != 0 {
			return nil, api.Mishap{Code: m.Code, At: at + m.At}
		}
		word.At = at
		out = append(out, word)
		at += n
	}
	return out, api.Mishap{}
}

// remark is the length of the remark that a text begins with, 0 if it does not end: each opening has its closing, the innermost first.
func remark(s string) int {
	n := 2
	for n < len(s) {
		switch {
		case strings.HasPrefix(s[n:], "*)"):
			return n + 2
		case strings.HasPrefix(s[n:], "(*"):
			inner := remark(s[n:])
			if inner == 0 {
				return 0
			}
			n += inner
		default:
			n++
		}
	}
	return 0
}

// first is the word that a text begins with, and its length.
func first(s string) (lex.Token, int, api.Mishap) {
	var none lex.Token
	if p := part.FindString(s); p != "" {
		if slices.Contains(reservedWords(), p) {
			return lex.Token{Kind: 8, Text: p}, len(p), api.Mishap{}
		}
		for {
			m := more.FindString(s[len(p):])
			if m == "" {
				return short(1, p)
			}
			if slices.Contains(reservedWords(), m[1:]) {
				return none, 0, api.Mishap{Code: 32, At: len(p) + 1}
			}
			p += m
		}
	}
	if n := number.FindString(s); n != "" {
		if strings.ContainsAny(n, ".e") {
			if len(n) > 100 {
				return none, 0, api.Mishap{Code: 32}
			}
			return lex.Token{Kind: 5, Text: n}, len(n), api.Mishap{}
		}
		if len(n) > 2000 {
			return none, 0, api.Mishap{Code: 32}
		}
		return lex.Token{Kind: 4, Text: n, Int: reckon(n)}, len(n), api.Mishap{}
	}
	switch {
	case s[0] == '"':
		said, n, m := quoted(s)
		return lex.Token{Kind: 7, Text: said}, n, m
	case strings.HasPrefix(s, `#"`):
		said, n, m := quoted(s[1:])
		if m.Code != 0 {
			return none, 0, api.Mishap{Code: m.Code, At: m.At + 1}
		}
		if len(said) != 1 {
			return none, 0, api.Mishap{Code: 32}
		}
		return lex.Token{Kind: 6, Text: said, N: int(said[0])}, n + 1, api.Mishap{}
	case tyvar.MatchString(s):
		return short(3, tyvar.FindString(s))
	case strings.Contains("()[]{},;_", s[:1]):
		return lex.Token{Kind: 8, Text: s[:1]}, 1, api.Mishap{}
	case symbols.MatchString(s):
		if x := symbols.FindString(s); slices.Contains(reservedWords(), x) {
			return lex.Token{Kind: 8, Text: x}, len(x), api.Mishap{}
		}
		return short(2, symbols.FindString(s))
	}
	return none, 0, api.Mishap{Code: 30}
}

func short(kind int, s string) (lex.Token, int, api.Mishap) {
	if len(s) > 64 {
		return lex.Token{}, 0, api.Mishap{Code: 32}
	}
	return lex.Token{Kind: kind, Text: s}, len(s), api.Mishap{}
}

func quoted(s string) (string, int, api.Mishap) {
	in := inner.FindString(s)
	switch {
	case len(in) == len(s):
		return "", 0, api.Mishap{Code: 31, At: len(s)}
	case s[len(in)] != '"':
		return "", 0, api.Mishap{Code: 32, At: len(in)}
	}
	return escapes.ReplaceAllStringFunc(in[1:], func(e string) string {
		switch e[1] {
		case 'n':
			return "\n"
		case 't':
			return "\t"
		case '\\', '"':
			return e[1:]
		}
		n, _ := strconv.Atoi(e[1:])
		return string([]byte{byte(n)})
	}), len(in) + 1, api.Mishap{}
}

// reckon is the number that an integer's word says, digit by digit.
func reckon(s string) api.Int {
	digits := strings.TrimPrefix(s, "~")
	n := big.Of(0)
	for _, d := range digits {
		n = big.Add(big.Mul(n, big.Of(10)), big.Of(int64(d-'0')))
	}
	if digits != s {
		return big.Sub(big.Of(0), n)
	}
	return n
}

// compare holds m 10^e against n 2^p.
func compare(m api.Int, e int, n int64, p int) int {
	left, right := m, big.Of(n)
	for ; e > 0; e-- {
		left = big.Mul(left, big.Of(10))
	}
	for ; e < 0; e++ {
		right = big.Mul(right, big.Of(10))
	}
	for ; p > 0; p-- {
		right = big.Mul(right, big.Of(2))
	}
	for ; p < 0; p++ {
		left = big.Mul(left, big.Of(2))
	}
	return big.Cmp(left, right)
}

// nearest tells whether the bits are those of the real that is nearest to a real's word, by integers alone.
func nearest(word string, bits uint64) bool {
	if strings.HasPrefix(word, "~") != (bits>>63 == 1) {
		return false
	}
	mantissa, exponent, _ := strings.Cut(strings.TrimPrefix(word, "~"), "e")
	whole, fraction, _ := strings.Cut(mantissa, ".")
	m := reckon(whole + fraction)
	e, err := strconv.Atoi(strings.Replace("0"+exponent, "0~", "-0", 1))
	if err != nil || e > 1000 || e < -1000 {
		// So far away that the mantissa's few digits don't bring it back.
		e = 1000 * map[bool]int{true: -1, false: 1}[strings.Contains(exponent, "~")]
	}
	e -= len(fraction)
	// A real is n 2^p; half way up to the next one is (2 n + 1) 2^(p-1), half way down (2 n - 1) 2^(p-1), but of a power of 2, below which reals lie twice as close.
	n, p := int64(bits&(1<<52-1)), int(bits>>52&2047)
	switch {
	case p == 2047:
		return n == 0 && compare(m, e, 1<<54-1, 970) >= 0
	case p == 0:
		p = -1074
	default:
		n, p = n|1<<52, p-1075
	}
	below := compare(m, e, 2*n-1, p-1)
	if n == 1<<52 && p > -1074 {
		below = compare(m, e, 4*n-1, p-2)
	}
	above := compare(m, e, 2*n+1, p-1)
	even := n%2 == 0
	return (below > 0 || below == 0 && even) && (above < 0 || above == 0 && even)
}

func agree(t *testing.T, text string) {
	t.Helper()
	got, m := lex.Tokens(text)
	want, wm := oracle(text)
	if m != wm || len(got) != len(want) || (got == nil) != (want == nil) {
		t.Fatalf("%q: %v, %d words, want %v, %d", text, m, len(got), wm, len(want))
	}
	for i, x := range got {
		if x.Kind == lex.Real && nearest(x.Text, x.Bits) {
			x.Bits = 0
		}
		if !same(x, want[i]) || !big.Valid(x.Int) {
			t.Fatalf("%q, word %d: %+v, want %+v", text, i, x, want[i])
		}
	}
}

func pieces() []string {
	return append(reservedWords(), " ", " ", "\n", "\t", "\r", "(*", "*)", "(* x *)", "\"", "\"a\"", "\"\\n\\065\"", "\\", "\\255", "\\256", "\\n", "\\\"", "#\"", "#\"a\"", "#\"\\t\"", "'", "''", "'a", "''b1", "a", "A.b", "x'", ".", ".", "e", "e~5", "~", "~3", "0", "17", "1.5", "2e3", ".5", "12e~3",
		"+", "*", "!", "::", "\x00", "\x7f", "\x1f", "\x80", "\xff", "é", "$", "^", "`", "E", "n", "t", "_x", "9007199254740993.0", "4e~324", "2e308", strings.Repeat("x", 60), strings.Repeat("=", 61), strings.Repeat("5", 98))
}

func TestAgainstOracle(t *testing.T) {
	r := rand.New(rand.NewSource(1))
	all := pieces()
	for range 60000 {
		var s strings.Builder
		for range r.Intn(12) {
			s.WriteString(all[r.Intn(len(all))])
		}
		agree(t, s.String())
	}
}

func TestAllShortTexts(t *testing.T) {
	const few = "a.1e~\"\\#'(*)=_ \n\x00n"
	var goOn func(s string, left int)
	goOn = func(s string, left int) {
		agree(t, s)
		if left > 0 {
			for i := range len(few) {
				goOn(s+few[i:i+1], left-1)
			}
		}
	}
	goOn("", 4)
}

func TestWildBytes(t *testing.T) {
	r := rand.New(rand.NewSource(2))
	for range 20000 {
		s := make([]byte, r.Intn(20))
		for i := range s {
			s[i] = byte(r.Intn(256))
		}
		agree(t, string(s))
	}
}

func TestReal(t *testing.T) {
	r := rand.New(rand.NewSource(3))
	for range 2000 {
		// Half way between two reals, or a digit beside it.
		x := math.Float64frombits(r.Uint64() & (1<<63 - 1))
		if r.Intn(2) == 0 {
			x = math.Ldexp(float64(r.Int63()), r.Intn(120)-100)
		}
		if math.IsNaN(x) || math.IsInf(x, 0) {
			continue
		}
		s := strings.Replace(strconv.FormatFloat(x, 'e', r.Intn(60), 64), "e-", "e~", 1)
		agree(t, strings.Replace(s, "e+", "e", 1))
	}
	for range 500 {
		n := r.Int63()>>10 | 1<<52
		s := big.Text(big.Add(big.Mul(big.Of(n), big.Of(2)), big.Of(1)))
		agree(t, s+".0 "+s+".0000000001 "+s+"e0")
		agree(t, s[:len(s)-1]+"e1")
	}
}

// P3.3

// someWords are words of all kinds but Text and Char.
func someWords(r *rand.Rand) []string {
	all := append(reservedWords(), "x", "A.b'", "a_1", "+", "::", "=~", "~", "##", "'a", "''b", "0", "~07", "12345678901234567890", "1.5", "~2e~3", "1e5", "*", "e", "e5", "`")
	out := make([]string, r.Intn(10))
	for i := range out {
		out[i] = all[r.Intn(len(all))]
	}
	return out
}

func equalButPlaces(a, b []lex.Token) bool {
	return slices.EqualFunc(a, b, func(x, y lex.Token) bool {
		x.At, y.At = 0, 0
		return same(x, y)
	})
}

func TestBlanksBetween(t *testing.T) {
	r := rand.New(rand.NewSource(4))
	between := []string{" ", "  ", "\n", "\t\r", " (**) ", "(* x *)", " (* \" (* *) ' *)\n", "(***)(*)*)"}
	for range 5000 {
		words := someWords(r)
		plain, m := lex.Tokens(strings.Join(words, " "))
		var s strings.Builder
		for _, w := range words {
			s.WriteString(between[r.Intn(len(between))] + w)
		}
		s.WriteString(between[r.Intn(len(between))])
		wide, wm := lex.Tokens(s.String())
		if m.Code != api.OK || wm.Code != api.OK || len(plain) != len(words) || !equalButPlaces(plain, wide) {
			t.Fatalf("%q: %v, %v", s.String(), m, wm)
		}
		for i, x := range plain {
			if x.Text != words[i] {
				t.Fatalf("%q: %+v", words, x)
			}
		}
	}
}

func TestCutAgain(t *testing.T) {
	r := rand.New(rand.NewSource(5))
	all := slices.DeleteFunc(pieces(), func(s string) bool { return strings.ContainsAny(s, "\"\\") })
	many := 0
	for range 30000 {
		var s strings.Builder
		for range r.Intn(8) {
			s.WriteString(all[r.Intn(len(all))])
		}
		words, m := lex.Tokens(s.String())
		if m.Code != api.OK {
			continue
		}
		var texts []string
		for _, w := range words {
			texts = append(texts, w.Text)
		}
		again, m := lex.Tokens(strings.Join(texts, " "))
		if m.Code != api.OK || !equalButPlaces(words, again) {
			t.Fatalf("%q: %v, %+v, %+v", s.String(), m, words, again)
		}
		many++
	}
	if many < 5000 {
		t.Error(many)
	}
}

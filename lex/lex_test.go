package lex_test

import (
	"math"
	"strings"
	"testing"

	"smithy/api"
	"smithy/big"
	"smithy/lex"
)

// same tells whether two words are alike in all that they say.
func same(a, b lex.Token) bool {
	return a.Kind == b.Kind && a.Text == b.Text && a.Bits == b.Bits && a.N == b.N && a.At == b.At && a.Int.Neg == b.Int.Neg && big.Text(a.Int) == big.Text(b.Int)
}

func cut(t *testing.T, text string, want ...lex.Token) {
	t.Helper()
	got, m := lex.Tokens(text)
	if m != (api.Mishap{}) || len(got) != len(want) {
		t.Errorf("%q: %v, %d words: %+v", text, m, len(got), got)
		return
	}
	for i, x := range got {
		if !same(x, want[i]) || !big.Valid(x.Int) {
			t.Errorf("%q, word %d: %+v, want %+v", text, i, x, want[i])
		}
	}
}

func refused(t *testing.T, text string, code api.Errno, at int) {
	t.Helper()
	if got, m := lex.Tokens(text); got != nil || m != (api.Mishap{Code: code, At: at}) {
		t.Errorf("%.80q (%d bytes): %v, %d words; want %v", text, len(text), m, len(got), api.Mishap{Code: code, At: at})
	}
}

func key(at int, s string) lex.Token { return lex.Token{Kind: lex.Key, Text: s, At: at} }
func id(at int, s string) lex.Token  { return lex.Token{Kind: lex.Id, Text: s, At: at} }
func sym(at int, s string) lex.Token { return lex.Token{Kind: lex.Symbol, Text: s, At: at} }
func tyv(at int, s string) lex.Token { return lex.Token{Kind: lex.TyVar, Text: s, At: at} }
func txt(at int, s string) lex.Token { return lex.Token{Kind: lex.Text, Text: s, At: at} }

func chr(at int, c byte) lex.Token {
	return lex.Token{Kind: lex.Char, Text: string([]byte{c}), N: int(c), At: at}
}

func num(at int, s string, n int64) lex.Token {
	return lex.Token{Kind: lex.Int, Text: s, Int: big.Of(n), At: at}
}

func float(at int, s string, x float64) lex.Token {
	return lex.Token{Kind: lex.Real, Text: s, Bits: math.Float64bits(x), At: at}
}

func reservedWords() []string {
	return strings.Fields("and andalso as case datatype do else end exception fn fun handle if in infix infixr let nonfix of op orelse raise sig signature struct structure then type val while -> => : :> = | # ( ) [ ] { } , ; _")
}

// The document's examples.

func TestExamples(t *testing.T) {
	cut(t, "val x = ~5", key(0, "val"), id(4, "x"), key(6, "="), num(8, "~5", -5))
	cut(t, "A.b.c'1 a", id(0, "A.b.c'1"), id(8, "a"))
	refused(t, "a.", api.ErrByte, 1)
	cut(t, "1.5e~3 1e 2", float(0, "1.5e~3", 0.0015), num(7, "1", 1), id(8, "e"), num(10, "2", 2))
	refused(t, "2.", api.ErrByte, 1)
	cut(t, "x:=!y--z", id(0, "x"), sym(1, ":=!"), id(4, "y"), sym(5, "--"), id(7, "z"))
	cut(t, `#"a" #`, chr(0, 'a'), key(5, "#"))
	refused(t, `#"a" # "a`, api.ErrEnd, 9)
	refused(t, `#"ab"`, api.ErrWord, 0)
	refused(t, "x (* a", api.ErrEnd, 6)
	cut(t, "(* a (* b *) c *) ''a 'b", tyv(18, "''a"), tyv(22, "'b"))
	refused(t, "A.end", api.ErrWord, 2)
	cut(t, `"\065\n"`, txt(0, "A\n"))
	refused(t, `"\9"`, api.ErrWord, 1)
	refused(t, "'1", api.ErrByte, 0)
}

// P3.1

func TestKindsAreNumbered(t *testing.T) {
	for i, k := range []int{lex.Id, lex.Symbol, lex.TyVar, lex.Int, lex.Real, lex.Char, lex.Text, lex.Key} {
		if k != i+1 {
			t.Errorf("kind %d is %d", i+1, k)
		}
	}
}

func TestAllKindsInARow(t *testing.T) {
	cut(t, "fun f'x_1 'a=[op+,(S.y:''b),~12;3.25 #\"\\n\"\"\"\t\r\n_{#l}=>->!",
		key(0, "fun"), id(4, "f'x_1"), tyv(10, "'a"), key(12, "="), key(13, "["), key(14, "op"), sym(16, "+"), key(17, ","), key(18, "("), id(19, "S.y"), key(22, ":"), tyv(23, "''b"), key(26, ")"), key(27, ","),
		num(28, "~12", -12), key(31, ";"), float(32, "3.25", 3.25), chr(37, '\n'), txt(42, ""), key(47, "_"), key(48, "{"), key(49, "#"), id(50, "l"), key(51, "}"), sym(52, "=>->!"))
}

func TestNoWords(t *testing.T) {
	for _, s := range []string{"", " ", " \t\n\r", "(**)", "(***)", " (* a *)\n(*b*)(* (* *)(**) *) "} {
		if got, m := lex.Tokens(s); got != nil || m != (api.Mishap{}) {
			t.Errorf("%q: %v, %v", s, got, m)
		}
	}
}

func TestLongTexts(t *testing.T) {
	refused(t, strings.Repeat(" ", api.MaxSource+1), api.ErrLong, 0)
	refused(t, strings.Repeat("\x00", api.MaxSource+1), api.ErrLong, 0)
	refused(t, "(*"+strings.Repeat("x", 2*api.MaxSource), api.ErrLong, 0)
	cut(t, strings.Repeat(" ", api.MaxSource))
	cut(t, strings.Repeat(" ", api.MaxSource-1)+"x", id(api.MaxSource-1, "x"))
	cut(t, `"`+strings.Repeat("y", api.MaxSource-2)+`"`, txt(0, strings.Repeat("y", api.MaxSource-2)))
	refused(t, `"`+strings.Repeat("y", api.MaxSource-1), api.ErrEnd, api.MaxSource)
	refused(t, strings.Repeat("(*", api.MaxSource/2), api.ErrEnd, api.MaxSource)
	if got, m := lex.Tokens(strings.Repeat(",", api.MaxSource)); m.Code != api.OK || len(got) != api.MaxSource {
		t.Errorf("%d words, %v", len(got), m)
	}
}

func TestNames(t *testing.T) {
	cut(t, "x X z9 Z a' a'' a_ A_'0'_", id(0, "x"), id(2, "X"), id(4, "z9"), id(7, "Z"), id(9, "a'"), id(12, "a''"), id(16, "a_"), id(19, "A_'0'_"))
	cut(t, "vals Val va l andals", id(0, "vals"), id(5, "Val"), id(9, "va"), id(12, "l"), id(14, "andals"))
	cut(t, "val' val_ val1", id(0, "val'"), id(5, "val_"), id(10, "val1"))
	cut(t, "_a", key(0, "_"), id(1, "a"))
	cut(t, "a.B.c' A.x1.y_", id(0, "a.B.c'"), id(7, "A.x1.y_"))
	cut(t, "A.ends.valu", id(0, "A.ends.valu"))
	refused(t, "A .b", api.ErrByte, 2)
	refused(t, "A. b", api.ErrByte, 1)
	refused(t, "A..b", api.ErrByte, 1)
	refused(t, "A.b.", api.ErrByte, 3)
	refused(t, "A.1", api.ErrByte, 1)
	refused(t, "A._", api.ErrByte, 1)
	refused(t, "A.'a", api.ErrByte, 1)
	refused(t, "A.+", api.ErrByte, 1)
	refused(t, "A.b(*.*).c", api.ErrByte, 8)
	refused(t, ".a", api.ErrByte, 0)
}

func TestReservedParts(t *testing.T) {
	for _, s := range reservedWords()[:30] {
		refused(t, "x A."+s, api.ErrWord, 4)
		refused(t, "A.b."+s+".c", api.ErrWord, 4)
		refused(t, s+".a", api.ErrByte, len(s))
		cut(t, "A."+s+"'", id(0, "A."+s+"'"))
	}
	refused(t, "A.fn.val", api.ErrWord, 2)
}

func TestLongNames(t *testing.T) {
	x := strings.Repeat("x", api.MaxName)
	for _, s := range []string{x, x[:31] + "." + x[:32], x[1:] + "'", "a.b" + x[3:]} {
		cut(t, s+" "+s, id(0, s), id(65, s))
		refused(t, "  "+s+"x", api.ErrWord, 2)
		refused(t, "y "+s+".x", api.ErrWord, 2)
		refused(t, s+"_ \x00", api.ErrWord, 0)
	}
	refused(t, strings.Repeat("z", api.MaxSource), api.ErrWord, 0)
	refused(t, x+"x.end", api.ErrWord, 66)
	refused(t, "A.end."+x, api.ErrWord, 2)
	v := "'" + x[1:]
	cut(t, v, tyv(0, v))
	refused(t, " "+v+"x", api.ErrWord, 1)
	w := "''" + x[2:]
	cut(t, w, tyv(0, w))
	refused(t, " "+w+"1", api.ErrWord, 1)
	y := strings.Repeat("=", api.MaxName)
	cut(t, y+" "+y, sym(0, y), sym(65, y))
	refused(t, "x"+y+"=", api.ErrWord, 1)
	refused(t, "x"+strings.Repeat("#", 100)+"\"", api.ErrWord, 1)
}

func TestTypeVariables(t *testing.T) {
	cut(t, "'a ''a 'A1_' ''b''c 'val", tyv(0, "'a"), tyv(3, "''a"), tyv(7, "'A1_'"), tyv(13, "''b''c"), tyv(20, "'val"))
	cut(t, "1'a", num(0, "1", 1), tyv(1, "'a"))
	cut(t, "x 'a.b"[:4], id(0, "x"), tyv(2, "'a"))
	refused(t, "x 'a.b", api.ErrByte, 4)
	for _, s := range []string{"'", "''", "'''", "'''a", "'1a", "''1", "'_a", "' a", "'' a", "'(**)a", "'\x80"} {
		refused(t, s, api.ErrByte, 0)
		refused(t, "+"+s, api.ErrByte, 1)
	}
}

func TestSymbols(t *testing.T) {
	for _, c := range "!%&$+-/<>?@\\~`^*" {
		cut(t, " "+string(c), sym(1, string(c)))
	}
	for _, c := range "#:=|" {
		cut(t, " "+string(c), key(1, string(c)))
		cut(t, " "+string(c)+string(c), sym(1, string(c)+string(c)))
	}
	cut(t, "!%&$#+-/:<=>?@\\~`^|*", sym(0, "!%&$#+-/:<=>?@\\~`^|*"))
	cut(t, "-> ->> => ==> :> ::> :: := :> =", key(0, "->"), sym(3, "->>"), key(7, "=>"), sym(10, "==>"), key(14, ":>"), sym(17, "::>"), sym(21, "::"), sym(24, ":="), key(27, ":>"), key(30, "="))
	cut(t, "a=b", id(0, "a"), key(1, "="), id(2, "b"))
	cut(t, "a=~5 ~~5 -~5 ~ 5", id(0, "a"), sym(1, "=~"), num(3, "5", 5), sym(5, "~~"), num(7, "5", 5), sym(9, "-~"), num(11, "5", 5), sym(13, "~"), num(15, "5", 5))
	cut(t, "~(**)5 ~", sym(0, "~"), num(5, "5", 5), sym(7, "~"))
	cut(t, "*)", sym(0, "*"), key(1, ")"))
	cut(t, "( *)", key(0, "("), sym(2, "*"), key(3, ")"))
	cut(t, "()[]{},;_(__", key(0, "("), key(1, ")"), key(2, "["), key(3, "]"), key(4, "{"), key(5, "}"), key(6, ","), key(7, ";"), key(8, "_"), key(9, "("), key(10, "_"), key(11, "_"))
}

func TestIntegers(t *testing.T) {
	cut(t, "0 00 7 007 ~0 ~00 ~07 10 ~100", num(0, "0", 0), num(2, "00", 0), num(5, "7", 7), num(7, "007", 7), num(11, "~0", 0), num(14, "~00", 0), num(18, "~07", -7), num(22, "10", 10), num(25, "~100", -100))
	cut(t, "9223372036854775807 ~9223372036854775808 4294967296", num(0, "9223372036854775807", math.MaxInt64), num(20, "~9223372036854775808", math.MinInt64), num(41, "4294967296", 1<<32))
	cut(t, "1a 0x1F 5_ 3~4 2-1", num(0, "1", 1), id(1, "a"), num(3, "0", 0), id(4, "x1F"), num(8, "5", 5), key(9, "_"), num(11, "3", 3), num(12, "~4", -4), num(15, "2", 2), sym(16, "-"), num(17, "1", 1))
	got, _ := lex.Tokens("~0")
	if len(got) != 1 || got[0].Int.Neg || got[0].Int.Mag != nil {
		t.Errorf("~0: %+v", got)
	}
}

func TestLongIntegers(t *testing.T) {
	for _, s := range []string{strings.Repeat("7", api.MaxDigits), "~" + strings.Repeat("9", api.MaxDigits-1), strings.Repeat("0", api.MaxDigits), "~" + strings.Repeat("0", api.MaxDigits-1), strings.Repeat("0", api.MaxDigits-1) + "5", "~0" + strings.Repeat("1", api.MaxDigits-2)} {
		n := reckon(s)
		cut(t, s+" "+s, lex.Token{Kind: lex.Int, Text: s, Int: n}, lex.Token{Kind: lex.Int, Text: s, Int: n, At: api.MaxDigits + 1})
		refused(t, "x "+s+"0", api.ErrWord, 2)
		refused(t, s+"0.5", api.ErrWord, 0)
		refused(t, s+"1.", api.ErrWord, 0)
	}
	refused(t, "~"+strings.Repeat("7", api.MaxDigits), api.ErrWord, 0)
	refused(t, strings.Repeat("7", api.MaxSource), api.ErrWord, 0)
}

func TestReals(t *testing.T) {
	cut(t, "1.5 ~1.5 1e3 1e~3 ~2e0 00.50 1.5e07", float(0, "1.5", 1.5), float(4, "~1.5", -1.5), float(9, "1e3", 1000), float(13, "1e~3", 0.001), float(18, "~2e0", -2), float(23, "00.50", 0.5), float(29, "1.5e07", 15000000))
	cut(t, "0.0 ~0.0 0e9 ~0e~9", float(0, "0.0", 0), float(4, "~0.0", math.Copysign(0, -1)), float(9, "0e9", 0), float(13, "~0e~9", math.Copysign(0, -1)))
	cut(t, "0.1 123456789.123456789", float(0, "0.1", 0.1), float(4, "123456789.123456789", 123456789.123456789))
	cut(t, "1.5e", float(0, "1.5", 1.5), id(3, "e"))
	cut(t, "1.5e~", float(0, "1.5", 1.5), id(3, "e"), sym(4, "~"))
	cut(t, "1e~x", num(0, "1", 1), id(1, "e"), sym(2, "~"), id(3, "x"))
	cut(t, "1e~~2", num(0, "1", 1), id(1, "e"), sym(2, "~~"), num(4, "2", 2))
	cut(t, "1e-2", num(0, "1", 1), id(1, "e"), sym(2, "-"), num(3, "2", 2))
	cut(t, "1E2", num(0, "1", 1), id(1, "E2"))
	cut(t, "1ee2", num(0, "1", 1), id(1, "ee2"))
	cut(t, "1e2e3", float(0, "1e2", 100), id(3, "e3"))
	cut(t, "1e2x", float(0, "1e2", 100), id(3, "x"))
	cut(t, "1e~2~3", float(0, "1e~2", 0.01), num(4, "~3", -3))
	refused(t, "1.e2", api.ErrByte, 1)
	refused(t, "1.~2", api.ErrByte, 1)
	refused(t, "1.x", api.ErrByte, 1)
	refused(t, "1.2.3", api.ErrByte, 3)
	refused(t, "1e2.3", api.ErrByte, 3)
	refused(t, "1e.3", api.ErrByte, 2)
}

func TestEdgesOfReals(t *testing.T) {
	inf, tiny := math.Inf(1), math.SmallestNonzeroFloat64
	for s, x := range map[string]float64{
		"1.7976931348623157e308": math.MaxFloat64, "1.7976931348623158e308": math.MaxFloat64, "1.7976931348623159e308": inf,
		"1e309": inf, "1e99999999999999999999999": inf, "9e308": inf, "0.1e310": inf,
		"4.9406564584124654e~324": tiny, "5e~324": tiny, "2.4703282292062327e~324": 0, "2.4703282292062328e~324": tiny, "1e~324": 0, "1e~99999999999999999999": 0,
		"2.2250738585072014e~308": 0x1p-1022, "2.2250738585072011e~308": 0x0.fffffffffffffp-1022,
		"9007199254740992.0": 1 << 53, "9007199254740993.0": 1 << 53, "9007199254740995.0": 1<<53 + 4, "9007199254740993.00000000000000000001": 1<<53 + 2,
		"9007199254740994999999999999999999e~18": 1<<53 + 2, "9007199254740995e0": 1<<53 + 4,
		"0.500000000000000166533453693773481063544750213623046875": 0.5000000000000002,
	} {
		cut(t, s, float(0, s, x))
		cut(t, " ~"+s, float(1, "~"+s, math.Copysign(x, -1)))
		if !nearest(s, math.Float64bits(x)) {
			t.Errorf("%s is not nearest to %v", s, x)
		}
	}
}

func TestLongReals(t *testing.T) {
	for _, s := range []string{"1." + strings.Repeat("3", 98), "~1" + strings.Repeat("0", 94) + "e~90", strings.Repeat("0", 97) + "1.5", "1e" + strings.Repeat("0", 97) + "2"} {
		got, m := lex.Tokens(s)
		if len(s) != 100 || m.Code != api.OK || len(got) != 1 || got[0].Kind != lex.Real || got[0].Text != s || !nearest(s, got[0].Bits) {
			t.Errorf("%q: %v, %+v", s, m, got)
		}
		refused(t, "x "+s+"0", api.ErrWord, 2)
		refused(t, s+"0.5", api.ErrWord, 0)
	}
	refused(t, strings.Repeat("1", 99)+".5", api.ErrWord, 0)
	refused(t, strings.Repeat("1", 3000)+"e1", api.ErrWord, 0)
	cut(t, strings.Repeat("0", 101), num(0, strings.Repeat("0", 101), 0))
}

func TestTexts(t *testing.T) {
	cut(t, `"" "a b" "(* x" "'" "# _"`, txt(0, ""), txt(3, "a b"), txt(9, "(* x"), txt(16, "'"), txt(20, "# _"))
	cut(t, `"\n\t\\\"" "\000\010\127\128\255" "\0651"`, txt(0, "\n\t\\\""), txt(11, "\x00\n\x7f\x80\xff"), txt(34, "A1"))
	cut(t, `"a""b"c`, txt(0, "a"), txt(3, "b"), id(6, "c"))
	plain := ""
	for c := byte(32); c < 127; c++ {
		if c != '"' && c != '\\' {
			plain += string(c)
		}
	}
	cut(t, `"`+plain+`"`, txt(0, plain))
}

func TestWrongTexts(t *testing.T) {
	for c := range 256 {
		s := string([]byte{byte(c)})
		if c < 32 || c > 126 {
			refused(t, ` "a`+s+`"`, api.ErrWord, 3)
			refused(t, ` "a\`+s+`"`, api.ErrWord, 3)
		}
		if !strings.Contains(`nt\"`, s) {
			refused(t, `"\`+s+`"`, api.ErrWord, 1)
			refused(t, `#"\`+s+`" `, api.ErrWord, 2)
		}
	}
	for _, s := range []string{`"\256"`, `"\999"`, `"\300"`, `"\12"`, `"\1a2"`, `"\12a"`, `"\-12"`, `"\`, `"\2`, `"\25`, `"\0`, "\"\\\n\""} {
		refused(t, s, api.ErrWord, 1)
		refused(t, "#"+s, api.ErrWord, 2)
		refused(t, `"ab"x`+s, api.ErrWord, 6)
	}
	for _, s := range []string{`"`, `"a`, `"\"`, `"\\\"`, `"\065`, `"(* *)`} {
		refused(t, s, api.ErrEnd, len(s))
		refused(t, "x #"+s, api.ErrEnd, 3+len(s))
	}
}

func TestChars(t *testing.T) {
	for c := range 256 {
		s := []byte(`#"\000"`)
		s[3], s[4], s[5] = byte('0'+c/100), byte('0'+c/10%10), byte('0'+c%10)
		cut(t, " "+string(s), chr(1, byte(c)))
		if c >= 32 && c < 127 && c != '"' && c != '\\' {
			cut(t, `#"`+string(byte(c))+`"`, chr(0, byte(c)))
		}
	}
	cut(t, `#"\n"#"\t" #"\\"#"\"" # "a"`, chr(0, '\n'), chr(5, '\t'), chr(11, '\\'), chr(16, '"'), key(22, "#"), txt(24, "a"))
	cut(t, `##"a" +#"b"`, sym(0, "##"), txt(2, "a"), sym(6, "+#"), txt(8, "b"))
	cut(t, `#(**)"a"`, key(0, "#"), txt(5, "a"))
	refused(t, ` #""`, api.ErrWord, 1)
	refused(t, ` #"ab"`, api.ErrWord, 1)
	refused(t, ` #"\n\n"`, api.ErrWord, 1)
	refused(t, ` #"ab`, api.ErrEnd, 5)
	refused(t, " #\"ab\n\"", api.ErrWord, 5)
	refused(t, ` #"`, api.ErrEnd, 3)
}

func TestRemarks(t *testing.T) {
	cut(t, "a(* \" *)b", id(0, "a"), id(8, "b"))
	cut(t, "a(*'\x00\xff#\"\\*)b", id(0, "a"), id(11, "b"))
	cut(t, "(* (* (* *) *) *)x(**)y", id(17, "x"), id(22, "y"))
	cut(t, "(***)x (****)y", id(5, "x"), id(13, "y"))
	cut(t, "(*)*)x", id(5, "x"))
	cut(t, "((*x*)*)", key(0, "("), sym(6, "*"), key(7, ")"))
	cut(t, "+(*x*)+", sym(0, "+"), sym(6, "+"))
	cut(t, "*(*x*)", sym(0, "*"))
	for _, s := range []string{"(*", "(*)", "(**", "(* (* *)", "(*(*)*)", "(* \" *) \" (*", "x(*", "\x20(* *) (*a"} {
		refused(t, s, api.ErrEnd, len(s))
	}
	refused(t, "(* *) \" (* *)", api.ErrEnd, 13)
	refused(t, "(* *)\x00", api.ErrByte, 5)
}

func TestBytesThatBeginNothing(t *testing.T) {
	const begin = " \t\n\rABCDEFGHIJKLMNOPQRSTUVWXYZabcdefghijklmnopqrstuvwxyz0123456789\"()[]{},;_!%&$#+-/:<=>?@\\~`^|*"
	for c := range 256 {
		s := string([]byte{byte(c)})
		if !strings.Contains(begin, s) {
			refused(t, s, api.ErrByte, 0)
			refused(t, "x "+s+"1", api.ErrByte, 2)
		}
	}
}

// The first mishap as one goes on from the left, whatever stands behind it.
func TestFirstMishap(t *testing.T) {
	refused(t, "a . \" (*", api.ErrByte, 2)
	refused(t, "a \"x . (*", api.ErrEnd, 9)
	refused(t, "a (* . \"", api.ErrEnd, 8)
	refused(t, "A.val . \"", api.ErrWord, 2)
	refused(t, "#\"ab\" . \"", api.ErrWord, 0)
	refused(t, strings.Repeat("x", 65)+" '", api.ErrWord, 0)
	refused(t, "' "+strings.Repeat("x", 65), api.ErrByte, 0)
	refused(t, "val x = 1 ' A.end", api.ErrByte, 10)
}

// P3.2

func TestReserved(t *testing.T) {
	all := reservedWords()
	if len(all) != 46 {
		t.Fatal(len(all))
	}
	for _, s := range all {
		if !lex.Reserved(s) {
			t.Errorf("%q is reserved", s)
		}
		cut(t, s, key(0, s))
		for _, x := range []string{s + " ", " " + s, s + s, strings.ToUpper(s) + "X", s + "\x00"} {
			if lex.Reserved(x) {
				t.Errorf("%q is not reserved", x)
			}
		}
	}
	for _, s := range []string{"", " ", "Val", "VAL", "vals", "va", "open", "local", "abstype", "eqtype", "functor", "where", "with", "withtype", "rec", "include", "sharing", "ref", "div", "mod", "*", "+", "...", ".", "::", ":=", "<", "==", "(*", "*)", "\"", "'", "''a", "~", "1", "()", "\xff"} {
		if lex.Reserved(s) {
			t.Errorf("%q is not reserved", s)
		}
	}
}

package opt_test

import (
	"math"
	"slices"
	"strconv"
	"strings"
	"testing"

	"smithy/api"
	"smithy/big"
	"smithy/flow"
)

// limbs is the greatest integer of so many limbs.
func limbs(many int) api.Atom {
	return api.Atom{Kind: api.AtomInt, Int: api.Int{Mag: slices.Repeat([]uint32{math.MaxUint32}, many)}}
}

// minus is the opposite of an integer.
func minus(a api.Atom) api.Atom {
	a.Int = big.Neg(a.Int)
	return a
}

func text(n int) api.Atom {
	return api.Atom{Kind: api.AtomText, Text: strings.Repeat("t", n)}
}

func sevens(n int) api.Atom {
	a, _ := big.Parse(strings.Repeat("7", n))
	return api.Atom{Kind: api.AtomInt, Int: a}
}

// given are atoms that are too great, or too odd, to be written.
func given() map[string]api.Atom {
	return map[string]api.Atom{
		"most": limbs(api.MaxLimbs), "more": limbs(api.MaxLimbs + 1), "-most": minus(limbs(api.MaxLimbs)), "half": limbs(api.MaxLimbs / 2), "halfmore": limbs(api.MaxLimbs/2 + 1), "7": limbs(7), "8": limbs(8), "15": limbs(15), "16": limbs(16), "-16": minus(limbs(16)), "31": limbs(31), "32": limbs(32), "17": limbs(17), "long": limbs(6803), "longer": limbs(6804), "63d": sevens(63), "64d": sevens(64), "-63d": minus(sevens(63)),
		"text": text(api.MaxString), "middle": text(api.MaxString / 2), "t64": text(64), "t63": text(63), "t128": text(128), "t255": text(255), "t256": text(256), "nought": {Kind: api.AtomText, Text: "a\x00"}, "bytes": {Kind: api.AtomText, Text: "\x00a\xff"},
		"inf": real(0x7FF0000000000000), "-inf": real(0xFFF0000000000000), "nan": real(0x7FF8000000000000), "-nan": real(0xFFF8000000000000), "odd": real(0xFFF0000000000001), "-0": real(1 << 63), "least": real(1), "-least": real(1<<63 | 1), "greatest": real(0x7FEFFFFFFFFFFFFF), "normal": real(0x0010000000000000), "2^53": real(0x4340000000000000), "2^53+2": real(0x4340000000000001),
	}
}

// primRow is a primitive: what is made ahead of it, what it is, how its answer is shown (an integer's text i, a truth t, a text s,
// the integer of a small number c, a real's bits r, unit u, or not at all -), what is shown then, or what it raises, and what it
// costs.
type primRow struct {
	lets, op, show, want string
	cost                 int
}

const infinity, notANumber = "9218868437227405312", "9221120237041090560"

func numberRows() []primRow {
	return []primRow{
		{"", `add 2 3`, "i", "5", 0}, {"", `add ~2 2`, "i", "0", 0}, {"", `add $15 0`, "-", "", 0}, {"", `add $15 1`, "-", "", 1}, {"", `add $16 0`, "-", "", 1}, {"", `add $31 0`, "-", "", 1}, {"", `add $32 0`, "-", "", 2}, {"", `add $most 0`, "-", "", 64}, {"", `add $most 1`, "i", "Size", 0}, {"", `add $-most ~1`, "i", "Size", 0}, {"", `add $more $-most`, "-", "Size", 0},
		{"", `sub 2 3`, "i", "~1", 0}, {"", `sub $more $more`, "i", "0", 0}, {"", `sub 0 $more`, "i", "Size", 0}, {"", `sub $-most 0`, "-", "", 64}, {"", `sub $-most 1`, "-", "Size", 0}, {"", `sub $16 $15`, "-", "", 1}, {"", `sub $16 $16`, "i", "0", 0},
		{"", `mul ~4 3`, "i", "~12", 0}, {"", `mul ~4 ~3`, "i", "12", 0}, {"", `mul 0 ~3`, "i", "0", 0}, {"", `mul $half $half`, "-", "", 64}, {"", `mul $half $halfmore`, "i", "Size", 0}, {"", `mul $most 2`, "-", "Size", 0}, {"", `mul $most 1`, "-", "", 64}, {"", `mul $more 0`, "i", "0", 0}, {"", `mul 1 $more`, "i", "Size", 0}, {"", `mul $8 $8`, "-", "", 1}, {"", `mul $8 $7`, "-", "", 0},
		{"", `neg 7`, "i", "~7", 0}, {"", `neg ~7`, "i", "7", 0}, {"", `neg 0`, "i", "0", 0}, {"", `neg $most`, "-", "", 64}, {"", `neg $more`, "i", "Size", 0}, {"", `neg $-16`, "-", "", 1},
		{"", `div 7 2`, "i", "3", 0}, {"", `div ~7 2`, "i", "~4", 0}, {"", `div 7 ~2`, "i", "~4", 0}, {"", `div ~7 ~2`, "i", "3", 0}, {"", `div 7 0`, "i", "Div", 0}, {"", `div 0 0`, "i", "Div", 0}, {"", `div $more 0`, "i", "Div", 0}, {"", `div $more 1`, "i", "Size", 0}, {"", `div $more $15`, "-", "", 63}, {"", `div $32 $16`, "-", "", 1}, {"", `div $32 $17`, "-", "", 1}, {"", `div $31 $17`, "-", "", 0},
		{"", `mod 7 2`, "i", "1", 0}, {"", `mod ~7 2`, "i", "1", 0}, {"", `mod 7 ~2`, "i", "~1", 0}, {"", `mod ~7 ~2`, "i", "~1", 0}, {"", `mod 1 0`, "i", "Div", 0}, {"", `mod ~1 $more`, "i", "Size", 0}, {"", `mod $more 2`, "i", "1", 0}, {"", `mod ~1 $16`, "-", "", 1}, {"", `mod $16 $32`, "-", "", 1}, {"", `mod $32 $16`, "i", "0", 0},
		{"", `lt 1 2`, "t", "true", 0}, {"", `lt 2 2`, "t", "false", 0}, {"", `lt ~2 ~1`, "t", "true", 0}, {"", `lt $more $most`, "t", "false", 0}, {"", `lt $-most $most`, "t", "true", 0}, {"", `le 2 2`, "t", "true", 0}, {"", `le 3 2`, "t", "false", 0}, {"", `le $most $more`, "t", "true", 0}, {"", `le ~1 ~2`, "t", "false", 0},
		{"", `itext ~12`, "s", "~12", 0}, {"", `itext 0`, "s", "0", 0}, {"", `itext $63d`, "s", strings.Repeat("7", 63), 0}, {"", `itext $64d`, "s", strings.Repeat("7", 64), 1}, {"", `itext $-63d`, "s", "~" + strings.Repeat("7", 63), 1}, {"", `itext $long`, "-", "", 1023}, {"", `itext $longer`, "s", "Size", 0},
		{"", `chr 0`, "c", "0", 0}, {"", `chr 255`, "c", "255", 0}, {"", `chr 256`, "c", "Chr", 0}, {"", `chr ~1`, "c", "Chr", 0}, {"", `chr $more`, "c", "Chr", 0}, {"", `ord #0`, "i", "0", 0}, {"", `ord #1073741823`, "i", "1073741823", 0},
		{"", `clt #1 #2`, "t", "true", 0}, {"", `clt #2 #2`, "t", "false", 0}, {"", `cle #2 #2`, "t", "true", 0}, {"", `cle #3 #2`, "t", "false", 0}, {"", `clt #0 #1073741823`, "t", "true", 0},
	}
}

func realRows() []primRow {
	return []primRow{
		{"", `radd %0.1 %0.2`, "r", "4599075939470750516", 0}, {"", `radd $2^53 %1`, "r", "4845873199050653696", 0}, {"", `radd $2^53+2 %1`, "r", "4845873199050653698", 0}, {"", `radd $greatest $greatest`, "r", infinity, 0}, {"", `radd $inf $-inf`, "r", notANumber, 0}, {"", `radd $odd %1`, "r", notANumber, 0}, {"", `radd %0 $-0`, "r", "0", 0}, {"", `radd $-0 $-0`, "r", "9223372036854775808", 0}, {"", `radd $least $least`, "r", "2", 0},
		{"", `rsub %1 %1`, "r", "0", 0}, {"", `rsub %1 %0.9`, "r", "4591870180066957720", 0}, {"", `rsub $inf $inf`, "r", notANumber, 0}, {"", `rsub $-0 %0`, "r", "9223372036854775808", 0}, {"", `rsub $normal $least`, "r", "4503599627370495", 0},
		{"", `rmul $least %0.5`, "r", "0", 0}, {"", `rmul $least %1.5`, "r", "2", 0}, {"", `rmul %-1 %0`, "r", "9223372036854775808", 0}, {"", `rmul $inf %0`, "r", notANumber, 0}, {"", `rmul $greatest %2`, "r", infinity, 0}, {"", `rmul %-1 $inf`, "r", "18442240474082181120", 0},
		{"", `rdiv %1 %0`, "r", infinity, 0}, {"", `rdiv %1 $-0`, "r", "18442240474082181120", 0}, {"", `rdiv %1 %3`, "r", "4599676419421066581", 0}, {"", `rdiv %0 %0`, "r", notANumber, 0}, {"", `rdiv $inf $inf`, "r", notANumber, 0}, {"", `rdiv %1 $inf`, "r", "0", 0},
		{"", `rneg %0`, "r", "9223372036854775808", 0}, {"", `rneg $-0`, "r", "0", 0}, {"", `rneg %-2.5`, "r", "4612811918334230528", 0}, {"", `rneg $odd`, "r", notANumber, 0}, {"", `rneg $nan`, "r", notANumber, 0}, {"", `rneg $inf`, "r", "18442240474082181120", 0},
		{"", `rlt %1 %2`, "t", "true", 0}, {"", `rlt %2 %2`, "t", "false", 0}, {"", `rlt $-0 %0`, "t", "false", 0}, {"", `rlt $nan $nan`, "t", "false", 0}, {"", `rlt $odd %1`, "t", "false", 0}, {"", `rlt %1 $-nan`, "t", "false", 0}, {"", `rlt $-inf $inf`, "t", "true", 0}, {"", `rlt $-least %0`, "t", "true", 0}, {"", `rlt $greatest $inf`, "t", "true", 0},
		{"", `rle $-0 %0`, "t", "true", 0}, {"", `rle %0 $-0`, "t", "true", 0}, {"", `rle $nan $nan`, "t", "false", 0}, {"", `rle $odd $odd`, "t", "false", 0}, {"", `rle $inf $inf`, "t", "true", 0}, {"", `rle %3 %2`, "t", "false", 0},
		{"", `rfromint 0`, "r", "0", 0}, {"", `rfromint 9007199254740993`, "r", "4845873199050653696", 0}, {"", `rfromint 9007199254740995`, "r", "4845873199050653698", 0}, {"", `rfromint ~1`, "r", "13830554455654793216", 0}, {"", `rfromint $more`, "r", infinity, 0}, {"", `rfromint $32`, "r", infinity, 0}, {"", `rfromint $31`, "r", "9074753249151549440", 0}, {"", `rfromint $-most`, "r", "18442240474082181120", 0}, {"", `rfromint 18446744073709551615`, "r", "4895412794951729152", 0},
		{"", `rfloor %2.5`, "i", "2", 0}, {"", `rfloor %-2.5`, "i", "~3", 0}, {"", `rfloor %-2`, "i", "~2", 0}, {"", `rfloor $-0`, "i", "0", 0}, {"", `rfloor $least`, "i", "0", 0}, {"", `rfloor $-least`, "i", "~1", 0}, {"", `rfloor %1e22`, "i", "10000000000000000000000", 0}, {"", `rfloor %-1e22`, "i", "~10000000000000000000000", 0}, {"", `rfloor $inf`, "i", "Domain", 0}, {"", `rfloor $-inf`, "i", "Domain", 0}, {"", `rfloor $nan`, "i", "Domain", 0}, {"", `rfloor $odd`, "i", "Domain", 0}, {"", `rfloor $greatest`, "-", "", 2},
		{"", `rbits %1`, "i", "4607182418800017408", 0}, {"", `rbits $odd`, "i", notANumber, 0}, {"", `rbits $-nan`, "i", notANumber, 0}, {"", `rbits $nan`, "i", notANumber, 0}, {"", `rbits $least`, "i", "1", 0}, {"", `rbits $-0`, "i", "9223372036854775808", 0}, {"", `rbits $-inf`, "i", "18442240474082181120", 0},
		{`let 5 = rdiv %0 %0; let 5 = rneg v5;`, `rbits v5`, "i", notANumber, 0}, {`let 5 = rsub $inf $inf;`, `rle v5 v5`, "t", "false", 0},
	}
}

func textRows() []primRow {
	return []primRow{
		{"", `cat "ab" "c"`, "s", "abc", 0}, {"", `cat "" ""`, "s", "", 0}, {"", `cat $t63 ""`, "-", "", 0}, {"", `cat "" $t64`, "-", "", 1}, {"", `cat $t64 $t63`, "-", "", 1}, {"", `cat $t64 $t64`, "-", "", 2}, {"", `cat $middle $middle`, "-", "", 1024}, {"", `cat $text ""`, "-", "", 1024}, {"", `cat $text "a"`, "s", "Size", 0}, {"", `cat "a" $text`, "s", "Size", 0}, {"", `cat $text $text`, "s", "Size", 0},
		{"", `size ""`, "i", "0", 0}, {"", `size $text`, "i", "65536", 0}, {"", `size $bytes`, "i", "3", 0},
		{"", `ssub "ab" 0`, "c", "97", 0}, {"", `ssub $bytes 2`, "c", "255", 0}, {"", `ssub "ab" 2`, "c", "Subscript", 0}, {"", `ssub "ab" ~1`, "c", "Subscript", 0}, {"", `ssub "" 0`, "c", "Subscript", 0}, {"", `ssub "ab" $more`, "c", "Subscript", 0}, {"", `ssub "ab" 18446744073709551616`, "c", "Subscript", 0},
		{"", `substring "abc" 1 2`, "s", "bc", 0}, {"", `substring "abc" 0 3`, "s", "abc", 0}, {"", `substring "abc" 3 0`, "s", "", 0}, {"", `substring "" 0 0`, "s", "", 0}, {"", `substring "abc" 4 0`, "s", "Subscript", 0}, {"", `substring "abc" 4 ~1`, "s", "Subscript", 0}, {"", `substring "abc" ~1 1`, "s", "Subscript", 0}, {"", `substring "abc" 1 ~1`, "s", "Subscript", 0}, {"", `substring "abc" 2 2`, "s", "Subscript", 0}, {"", `substring "abc" $most $-most`, "s", "Subscript", 0}, {"", `substring "abc" $-most $most`, "s", "Subscript", 0}, {"", `substring "abc" 1 18446744073709551617`, "s", "Subscript", 0}, {"", `substring $text 5 63`, "-", "", 0}, {"", `substring $text 5 128`, "-", "", 2}, {"", `substring $text 0 65536`, "-", "", 1024}, {"", `substring $text 1 65536`, "s", "Subscript", 0},
		{"", `slt "ab" "b"`, "t", "true", 0}, {"", `slt "a" "ab"`, "t", "true", 0}, {"", `slt "ab" "ab"`, "t", "false", 0}, {"", `slt "" $bytes`, "t", "true", 0}, {"", `slt "b" "ab"`, "t", "false", 0}, {"", `slt $t64 $t63`, "t", "false", 0}, {"", `sle "ab" "ab"`, "t", "true", 0}, {"", `sle "" ""`, "t", "true", 0}, {"", `sle "b" "ab"`, "t", "false", 0}, {"", `sle $text $text`, "t", "true", 0},
		{"", `str #97`, "s", "a", 0}, {"", `str #354`, "s", "b", 0}, {"", `str #1073741664`, "s", "`", 0},
		{"", `print ""`, "u", "", 0}, {"", `print $t63`, "u", "", 0}, {"", `print $t64`, "u", "", 1}, {"", `print $t128`, "u", "", 2}, {"", `eprint "a"`, "u", "", 0}, {"", `eprint $t128`, "u", "", 2},
		{"", `inputline 1`, "s", "one\n", 0}, {`let 5 = inputline %1;`, `inputline v5`, "s", "two\n", 0}, {`let 5 = inputline #1; let 5 = inputline v5;`, `inputline v5`, "s", "\n", 0}, {`let 5 = inputline !1; let 5 = inputline v5; let 5 = inputline v5;`, `inputline v5`, "s", "end", 0}, {`let 5 = inputline 1; let 5 = inputline v5; let 5 = inputline v5; let 5 = inputline v5;`, `inputline v5`, "s", "", 0},
		{"", `readfile "f"`, "s", "data", 0}, {"", `readfile "none"`, "s", "Io", 0}, {"", `readfile ""`, "s", "Io", 0}, {"", `readfile $nought`, "s", "Io", 0}, {"", `readfile $t256`, "s", "Io", 0}, {"", `readfile "longer"`, "s", "Io", 0}, {"", `readfile "long"`, "-", "", 1024},
		{"", `writefile "g" "a"`, "u", "", 0}, {"", `writefile "g" $t64`, "u", "", 1}, {"", `writefile $t255 $t63`, "u", "", 0}, {"", `writefile $t256 $t128`, "u", "Io", 0}, {"", `writefile "" $text`, "u", "Io", 0}, {"", `writefile $nought $text`, "u", "Io", 0}, {"", `writefile "g" $text`, "-", "", 1024},
		{`let 5 = writefile "g" $t64;`, `readfile "g"`, "-", "", 1}, {`let 5 = writefile "f" "";`, `readfile "f"`, "s", "", 0},
	}
}

func thingRows() []primRow {
	const list = `let 5 = block 0 "b" #0; let 5 = block 1 v5; let 5 = block 0 "a" v5; let 5 = block 1 v5;`
	const vector = list + ` let 6 = vector v5;`
	const cell = `let 5 = ref 7;`
	const bytes = `let 5 = bnew 3;`
	const many = `let 5 = call f1 17 #0;`
	return []primRow{
		{cell, `get v5`, "i", "7", 0}, {cell + ` let 6 = set v5 "a";`, `get v5`, "s", "a", 0}, {cell, `set v5 8`, "u", "", 0}, {`let 5 = ref $text;`, `get v5`, "-", "", 0}, {`let 5 = ref $most;`, `get v5`, "-", "", 0}, {cell, `set v5 $text`, "u", "", 0}, {"", `ref $text`, "-", "", 0}, {cell, `same v5 v5`, "t", "true", 0}, {cell + ` let 6 = ref 7;`, `same v5 v6`, "t", "false", 0}, {"", `same !0 !0`, "t", "true", 0}, {"", `same !0 !1`, "t", "false", 0}, {"", `get !5`, "s", "Io", 0},
		{cell + ` let 6 = set v5 v5; let 6 = get v5;`, `same v5 v6`, "t", "true", 0},
		{vector, `vlen v6`, "i", "2", 0}, {vector, `vsub v6 0`, "s", "a", 0}, {vector, `vsub v6 1`, "s", "b", 0}, {vector, `vsub v6 2`, "s", "Subscript", 0}, {vector, `vsub v6 ~1`, "s", "Subscript", 0}, {vector, `vsub v6 $more`, "s", "Subscript", 0}, {`let 6 = vector #0;`, `vlen v6`, "i", "0", 0}, {`let 6 = vector #0;`, `vsub v6 0`, "i", "Subscript", 0}, {list, `vector v5`, "-", "", 0},
		{many, `vector v5`, "-", "", 2}, {`let 5 = call f1 7 #0;`, `vector v5`, "-", "", 0}, {`let 5 = call f1 8 #0;`, `vector v5`, "-", "", 1}, {`let 5 = call f1 16 #0;`, `vector v5`, "-", "", 2},
		{"", `bnew 0`, "-", "", 0}, {"", `bnew 63`, "-", "", 0}, {"", `bnew 64`, "-", "", 1}, {"", `bnew 65536`, "-", "", 1024}, {"", `bnew 65537`, "-", "Size", 0}, {"", `bnew ~1`, "-", "Size", 0}, {"", `bnew $more`, "-", "Size", 0}, {"", `bnew 18446744073709551616`, "-", "Size", 0}, {`let 5 = bnew 65536;`, `blen v5`, "i", "65536", 0}, {`let 5 = bnew 0;`, `blen v5`, "i", "0", 0},
		{bytes, `bget v5 2`, "i", "0", 0}, {bytes, `bget v5 3`, "i", "Subscript", 0}, {bytes, `bget v5 ~1`, "i", "Subscript", 0}, {bytes, `bget v5 $more`, "i", "Subscript", 0}, {bytes + ` let 6 = bset v5 1 ~1;`, `bget v5 1`, "i", "255", 0}, {bytes + ` let 6 = bset v5 1 256;`, `bget v5 1`, "i", "0", 0}, {bytes + ` let 6 = bset v5 1 $more;`, `bget v5 1`, "i", "255", 0}, {bytes + ` let 6 = bset v5 1 ~1;`, `bget v5 0`, "i", "0", 0}, {bytes + ` let 6 = bset v5 1 ~1;`, `bget v5 2`, "i", "0", 0}, {bytes, `bset v5 0 1`, "u", "", 0}, {bytes, `bset v5 3 1`, "u", "Subscript", 0}, {bytes, `bset v5 ~1 1`, "u", "Subscript", 0}, {`let 5 = bnew 0;`, `bset v5 0 0`, "u", "Subscript", 0}, {`let 5 = bnew 65536; let 6 = bset v5 65535 7;`, `bget v5 65535`, "i", "7", 0},
	}
}

func equalRows() []primRow {
	const two = `let 5 = block 0 1 "a"; let 6 = block 0 1 "a";`
	const nested = `let 7 = block 2 #1; let 5 = block 1 v7 1 v7; let 8 = block 2 #1; let 6 = block 1 v8 1 v8;`
	const vectors = `let 7 = block 0 1 #0; let 7 = block 1 v7; let 5 = vector v7; let 6 = vector v7;`
	return []primRow{
		{"", `eq 3 3`, "t", "true", 0}, {"", `eq 3 ~3`, "t", "false", 0}, {"", `eq $most $most`, "t", "true", 0}, {"", `eq $most $more`, "t", "false", 0}, {"", `eq #3 #3`, "t", "true", 0}, {"", `eq #3 #4`, "t", "false", 0}, {"", `eq "abc" "abc"`, "t", "true", 0}, {"", `eq "abc" "abd"`, "t", "false", 0}, {"", `eq "" "a"`, "t", "false", 0}, {"", `eq $text $text`, "t", "true", 0}, {"", `eq !2 !2`, "t", "true", 0}, {"", `eq !2 !3`, "t", "false", 0},
		{two, `eq v5 v6`, "t", "true", 1}, {two, `eq v5 v5`, "t", "true", 1}, {nested, `eq v5 v6`, "t", "true", 3}, {nested, `eq v5 v5`, "t", "true", 3}, {nested, `eq v5 v8`, "t", "false", 1}, {`let 5 = block 0; let 6 = block 1;`, `eq v5 v6`, "t", "false", 1}, {`let 5 = block 0; let 6 = block 0;`, `eq v5 v6`, "t", "true", 1}, {`let 5 = block 0 1; let 6 = block 0 1 2;`, `eq v5 v6`, "t", "false", 1}, {`let 5 = block 0 %1; let 6 = block 1 %1;`, `eq v5 v6`, "t", "false", 1}, {`let 5 = block 0 %1; let 6 = block 0 %1 1;`, `eq v5 v6`, "t", "false", 1},
		{`let 5 = block 0 1 %1; let 6 = block 0 2 %1;`, `eq v5 v6`, "t", "false", 1}, {`let 7 = block 5; let 5 = block 0 v7 1 v7; let 6 = block 0 v7 2 v7;`, `eq v5 v6`, "t", "false", 2}, {`let 7 = block 5; let 8 = block 6; let 5 = block 0 v7 v7; let 6 = block 0 v8 v7;`, `eq v5 v6`, "t", "false", 2},
		{`let 5 = block 0;`, `eq #0 v5`, "t", "false", 0}, {`let 5 = block 1 %1;`, `eq v5 #1`, "t", "false", 0}, {`let 7 = block 1; let 5 = block 0 #1 v7; let 6 = block 0 v7 v7;`, `eq v5 v6`, "t", "false", 1},
		{vectors, `eq v5 v6`, "t", "true", 1}, {vectors, `eq v5 v5`, "t", "true", 1}, {vectors + ` let 6 = vector #0;`, `eq v5 v6`, "t", "false", 1}, {`let 5 = vector #0; let 6 = vector #0;`, `eq v5 v6`, "t", "true", 1}, {vectors + ` let 5 = block 0 v5; let 6 = block 0 v6;`, `eq v5 v6`, "t", "true", 2}, {vectors + ` let 7 = block 0 2 #0; let 7 = block 1 v7; let 6 = vector v7;`, `eq v5 v6`, "t", "false", 1},
		{`let 5 = ref 1; let 6 = ref 1;`, `eq v5 v6`, "t", "false", 0}, {`let 5 = ref 1;`, `eq v5 v5`, "t", "true", 0}, {`let 5 = ref %1;`, `eq v5 v5`, "t", "true", 0}, {`let 5 = bnew 1; let 6 = bnew 1;`, `eq v5 v6`, "t", "false", 0}, {`let 5 = bnew 1;`, `eq v5 v5`, "t", "true", 0}, {`let 7 = ref 1; let 8 = bnew 2; let 5 = block 0 v7 v8; let 6 = block 0 v7 v8;`, `eq v5 v6`, "t", "true", 1},
		{`let 5 = call f1 10 #0; let 6 = call f1 10 #0;`, `eq v5 v6`, "t", "true", 20}, {`let 5 = call f1 10 #0; let 6 = call f1 9 #0;`, `eq v5 v6`, "t", "false", 18},
	}
}

// theWorld is one with files that are just as long as they may be, and longer.
func theWorld() api.World {
	longer := strings.Repeat("d", api.MaxString+1)
	return api.World{Stdin: "one\ntwo\n\nend", Files: []api.File{{Name: "f", Data: "data"}, {Name: "long", Data: longer[1:]}, {Name: "longer", Data: longer}}}
}

// forms are programs that do a primitive: with its arguments as they stand, by copies, by cells, of which nothing is known, as
// parameters of a function, and captured; what it answers is shown, or nothing needs it; what it raises is caught, or not.
func forms(r primRow) []funs {
	const list = `2: let 2 = le v0 0; if v2 { ret v1 } { let 3 = block 0 v0 v1; let 3 = block 1 v3; let 4 = sub v0 1; tail f1 v4 v3 }`
	show := map[string]string{"i": `let 91 = itext v90; ret v91`, "t": `if v90 { ret "true" } { ret "false" }`, "s": `ret v90`, "c": `let 91 = ord v90; let 91 = itext v91; ret v91`, "r": `let 91 = rbits v90; let 91 = itext v91; ret v91`, "u": `let 91 = block 0; let 91 = eq v90 v91; if v91 { ret "" } { ret "no unit" }`, "-": `ret ""`}[r.show]
	words := strings.Fields(strings.ReplaceAll(r.op, `""`, `"" `))
	name, args := words[0], words[1:]
	var copies, cells, locals, taken string
	for i, a := range args {
		n := strconv.Itoa(20 + i)
		copies += `let ` + n + ` = atom ` + a + `; `
		cells += `let ` + n + ` = ref ` + a + `; let ` + n + ` = get v` + n + `; `
		locals += ` v` + n
		taken += `let ` + n + ` = capture ` + strconv.Itoa(i) + ` v0; `
	}
	params, many := "", strconv.Itoa(len(args))
	for i := range args {
		params += " v" + strconv.Itoa(i)
	}
	all := strings.Join(args, " ")
	whole := func(text string) string {
		return r.lets + ` try { ` + text + ` } catch 1 { let 2 = field 0 v1; let 3 = get v2; ret v3 } then 4; let 4 = print v4; ret 1`
	}
	var out []funs
	for _, end := range []string{show, `ret "unneeded"`} {
		out = append(out,
			funs{whole(`let 90 = ` + r.op + `; ` + end), list},
			funs{whole(copies + `let 90 = ` + name + locals + `; ` + end), list},
			funs{whole(cells + `let 90 = ` + name + locals + `; ` + end), list},
			funs{whole(cells + `let 90 = ` + name + locals + `; let 90 = ` + name + locals + `; ` + end), list},
			funs{whole(`let 90 = call f2 ` + all + `; ` + end), list, many + `: let 90 = ` + name + params + `; ret v90`},
			funs{whole(cells + `let 90 = call f2` + locals + `; let 90 = call f2 ` + all + `; ` + end), list, many + `: let 90 = ` + name + params + `; ret v90`},
			funs{whole(`let 80 = closure f2 ` + all + `; let 90 = apply v80 0; ` + end), list, `2: ` + taken + `let 90 = ` + name + locals + `; ret v90`},
			funs{r.lets + copies + `let 90 = ` + name + locals + `; ` + end, list},
		)
	}
	return out
}

// P12.1: each primitive, at ordinary arguments and at the edges that chapter 10 names, in all forms.
func TestPrimitives(t *testing.T) {
	t.Parallel()
	met := map[string]int{}
	rows := slices.Concat(numberRows(), realRows(), textRows(), thingRows(), equalRows())
	for _, end := range []string{"0", "255", "256", "~1", "$more"} {
		rows = append(rows, primRow{"", "exit " + end, "-", "", 0})
	}
	for _, r := range rows {
		met[strings.Fields(r.op)[0]]++
	}
	for name := range flow.Prims() {
		if met[name] == 0 {
			t.Errorf("%s is not held", name)
		}
	}
	shared(t, func(t *testing.T, seed int) {
		for i, r := range rows {
			if i%hands+1 != seed {
				continue
			}
			some := []int{25, 60, 600, 1100, api.MaxFuel}
			if r.op == "itext $long" {
				some = []int{3, api.MaxFuel}
			}
			for _, f := range forms(r) {
				p := programWith(t, given(), f...)
				q := made(t, p)
				alike(t, p, q, theWorld(), some...)
				alike(t, p, again(t, q, 1), theWorld(), 3, 60, some[len(some)-1])
			}
		}
	})
}

// kindsOf says of which kinds a primitive's arguments are: a an integer, x a real, s a text, c a small number, r a cell, v a
// vector, b bytes, l a list, ? any.
const kindsOf = "add:aa sub:aa mul:aa neg:a div:aa mod:aa lt:aa le:aa radd:xx rsub:xx rmul:xx rdiv:xx rneg:x rlt:xx rle:xx rfromint:a rfloor:x rbits:x itext:a cat:ss size:s ssub:sa substring:saa " +
	"slt:ss sle:ss clt:cc cle:cc chr:a ord:c str:c eq:?? ref:? get:r set:r? same:rr vector:l vlen:v vsub:va bnew:a blen:b bget:ba bset:baa print:s eprint:s inputline:? readfile:s writefile:ss exit:a"

// Of values of other kinds a primitive is stuck: so is what is made of the program, whether something needs the answer or not,
// and whether the values are known or not.
func TestWrongKinds(t *testing.T) {
	t.Parallel()
	const values = `let 10 = atom 0; let 11 = atom $inf; let 12 = atom "a"; let 13 = atom #0; let 14 = ref 1; let 15 = block 0 1 #0; let 16 = block 1 v15; let 17 = vector v16; let 18 = bnew 2; let 19 = closure f1; let 20 = block 0; `
	hidden := values
	for v := 10; v <= 20; v++ {
		n := strconv.Itoa(v)
		hidden += `let ` + n + ` = ref v` + n + `; let ` + n + ` = get v` + n + `; `
	}
	local := map[byte]string{'a': " v10", 'x': " v11", 's': " v12", 'c': " v13", 'r': " v14", 'l': " v16", 'v': " v17", 'b': " v18", 'f': " v19", 'u': " v20"}
	var ends [3]int
	for _, r := range strings.Fields(kindsOf) {
		name, kinds, _ := strings.Cut(r, ":")
		for i := range len(kinds) {
			for kind := range local {
				op := name
				for j := range len(kinds) {
					with := kinds[j]
					if with == '?' {
						with = kind
					}
					if i == j {
						with = kind
					}
					op += local[with]
				}
				for _, ahead := range []string{values, hidden} {
					for _, end := range []string{`ret 1`, `let 1 = print "b"; ret v0`, `let 0 = ` + op + `; ret 1`} {
						p := programWith(t, given(), ahead+`let 0 = print "a"; let 0 = `+op+`; `+end, `2: ret 1`)
						ends[alike(t, p, made(t, p), worlds()[0], 50, 100).Status]++
					}
				}
			}
		}
	}
	if ends[api.Running] > 0 || ends[api.Exited] < 300 || ends[api.Stuck] < 2000 {
		t.Error(ends)
	}
	for a := range local {
		for b := range local {
			for _, ahead := range []string{values, hidden} {
				p := programWith(t, given(), ahead+`let 0 = eq`+local[a]+local[b]+`; let 1 = print "a"; let 1 = eq`+local[a]+local[b]+`; let 1 = ord v1; let 1 = itext v1; let 1 = print v1; ret 1`, `2: ret 1`)
				alike(t, p, made(t, p), worlds()[0], 60, 100)
			}
		}
	}
}

package data_test

import (
	"math"
	"slices"
	"strings"
	"testing"

	"smithy/api"
	"smithy/big"
	"smithy/flow"
)

// limbs is the greatest integer of so many limbs.
func limbs(many int) api.Atom {
	return api.Atom{Kind: api.AtomInt, Int: api.Int{Mag: slices.Repeat([]uint32{math.MaxUint32}, many)}}
}

// minus is the opposite of an integer.
func minus(a api.Atom) api.Atom {
	a.Int = big.Neg(a.Int)
	return a
}

func text(n int) api.Atom {
	return api.Atom{Kind: api.AtomText, Text: strings.Repeat("t", n)}
}

func sevens(n int) api.Atom {
	a, _ := big.Parse(strings.Repeat("7", n))
	return api.Atom{Kind: api.AtomInt, Int: a}
}

// given are atoms that are too great, or too odd, to be written.
func given() map[string]api.Atom {
	return map[string]api.Atom{
		"most": limbs(api.MaxLimbs), "more": limbs(api.MaxLimbs + 1), "-most": minus(limbs(api.MaxLimbs)), "half": limbs(api.MaxLimbs / 2), "halfmore": limbs(api.MaxLimbs/2 + 1), "7": limbs(7), "8": limbs(8), "15": limbs(15), "16": limbs(16), "-16": minus(limbs(16)), "31": limbs(31), "32": limbs(32), "17": limbs(17), "long": limbs(6803), "longer": limbs(6804), "63d": sevens(63), "64d": sevens(64), "-63d": minus(sevens(63)),
		"text": text(api.MaxString), "middle": text(api.MaxString / 2), "t64": text(64), "t63": text(63), "t128": text(128), "t255": text(255), "t256": text(256), "nought": {Kind: api.AtomText, Text: "a\x00"}, "bytes": {Kind: api.AtomText, Text: "\x00a\xff"},
		"inf": real(0x7FF0000000000000), "-inf": real(0xFFF0000000000000), "nan": real(0x7FF8000000000000), "-nan": real(0xFFF8000000000000), "odd": real(0xFFF0000000000001), "-0": real(1 << 63), "least": real(1), "-least": real(1<<63 | 1), "greatest": real(0x7FEFFFFFFFFFFFFF), "normal": real(0x0010000000000000), "2^53": real(0x4340000000000000), "2^53+2": real(0x4340000000000001),
	}
}

// primRow is a primitive: what is made ahead of it, what it is, how its answer is shown (an integer's text i, a truth t, a text s,
// the integer of a small number c, a real's bits r, unit u, or not at all -), what is shown then, or what it raises, and what it
// costs there.
type primRow struct {
	lets, op, show, want string
	cost                 int
}

const infinity, notANumber = "9218868437227405312", "9221120237041090560"

func numberRows() []primRow {
	return []primRow{
		{"", `add 2 3`, "i", "5", 0}, {"", `add ~2 2`, "i", "0", 0}, {"", `add $15 0`, "-", "", 0}, {"", `add $15 1`, "-", "", 1}, {"", `add $16 0`, "-", "", 1}, {"", `add $31 0`, "-", "", 1}, {"", `add $32 0`, "-", "", 2}, {"", `add $most 0`, "-", "", 64}, {"", `add $most 1`, "i", "Size", 0}, {"", `add $-most ~1`, "i", "Size", 0}, {"", `add $more $-most`, "-", "Size", 0},
		{"", `sub 2 3`, "i", "~1", 0}, {"", `sub $more $more`, "i", "0", 0}, {"", `sub 0 $more`, "i", "Size", 0}, {"", `sub $-most 0`, "-", "", 64}, {"", `sub $-most 1`, "-", "Size", 0}, {"", `sub $16 $15`, "-", "", 1}, {"", `sub $16 $16`, "i", "0", 0},
		{"", `mul ~4 3`, "i", "~12", 0}, {"", `mul ~4 ~3`, "i", "12", 0}, {"", `mul 0 ~3`, "i", "0", 0}, {"", `mul $half $half`, "-", "", 64}, {"", `mul $half $halfmore`, "i", "Size", 0}, {"", `mul $most 2`, "-", "Size", 0}, {"", `mul $most 1`, "-", "", 64}, {"", `mul $more 0`, "i", "0", 0}, {"", `mul 1 $more`, "i", "Size", 0}, {"", `mul $8 $8`, "-", "", 1}, {"", `mul $8 $7`, "-", "", 0},
		{"", `neg 7`, "i", "~7", 0}, {"", `neg ~7`, "i", "7", 0}, {"", `neg 0`, "i", "0", 0}, {"", `neg $most`, "-", "", 64}, {"", `neg $more`, "i", "Size", 0}, {"", `neg $-16`, "-", "", 1},
		{"", `div 7 2`, "i", "3", 0}, {"", `div ~7 2`, "i", "~4", 0}, {"", `div 7 ~2`, "i", "~4", 0}, {"", `div ~7 ~2`, "i", "3", 0}, {"", `div 7 0`, "i", "Div", 0}, {"", `div 0 0`, "i", "Div", 0}, {"", `div $more 0`, "i", "Div", 0}, {"", `div $more 1`, "i", "Size", 0}, {"", `div $more $15`, "-", "", 63}, {"", `div $32 $16`, "-", "", 1}, {"", `div $32 $17`, "-", "", 1}, {"", `div $31 $17`, "-", "", 0},
		{"", `mod 7 2`, "i", "1", 0}, {"", `mod ~7 2`, "i", "1", 0}, {"", `mod 7 ~2`, "i", "~1", 0}, {"", `mod ~7 ~2`, "i", "~1", 0}, {"", `mod 1 0`, "i", "Div", 0}, {"", `mod ~1 $more`, "i", "Size", 0}, {"", `mod $more 2`, "i", "1", 0}, {"", `mod ~1 $16`, "-", "", 1}, {"", `mod $16 $32`, "-", "", 1}, {"", `mod $32 $16`, "i", "0", 0},
		{"", `lt 1 2`, "t", "true", 0}, {"", `lt 2 2`, "t", "false", 0}, {"", `lt ~2 ~1`, "t", "true", 0}, {"", `lt $more $most`, "t", "false", 0}, {"", `lt $-most $most`, "t", "true", 0}, {"", `le 2 2`, "t", "true", 0}, {"", `le 3 2`, "t", "false", 0}, {"", `le $most $more`, "t", "true", 0}, {"", `le ~1 ~2`, "t", "false", 0},
		{"", `itext ~12`, "s", "~12", 0}, {"", `itext 0`, "s", "0", 0}, {"", `itext $63d`, "s", strings.Repeat("7", 63), 0}, {"", `itext $64d`, "s", strings.Repeat("7", 64), 1}, {"", `itext $-63d`, "s", "~" + strings.Repeat("7", 63), 1}, {"", `itext $long`, "-", "", 1023}, {"", `itext $longer`, "s", "Size", 0},
		{"", `chr 0`, "c", "0", 0}, {"", `chr 255`, "c", "255", 0}, {"", `chr 256`, "c", "Chr", 0}, {"", `chr ~1`, "c", "Chr", 0}, {"", `chr $more`, "c", "Chr", 0}, {"", `ord #0`, "i", "0", 0}, {"", `ord #1073741823`, "i", "1073741823", 0},
		{"", `clt #1 #2`, "t", "true", 0}, {"", `clt #2 #2`, "t", "false", 0}, {"", `cle #2 #2`, "t", "true", 0}, {"", `cle #3 #2`, "t", "false", 0}, {"", `clt #0 #1073741823`, "t", "true", 0},
	}
}

func realRows() []primRow {
	return []primRow{
		{"", `radd %0.1 %0.2`, "r", "4599075939470750516", 0}, {"", `radd $2^53 %1`, "r", "4845873199050653696", 0}, {"", `radd $2^53+2 %1`, "r", "4845873199050653698", 0}, {"", `radd $greatest $greatest`, "r", infinity, 0}, {"", `radd $inf $-inf`, "r", notANumber, 0}, {"", `radd $odd %1`, "r", notANumber, 0}, {"", `radd %0 $-0`, "r", "0", 0}, {"", `radd $-0 $-0`, "r", "9223372036854775808", 0}, {"", `radd $least $least`, "r", "2", 0},
		{"", `rsub %1 %1`, "r", "0", 0}, {"", `rsub %1 %0.9`, "r", "4591870180066957720", 0}, {"", `rsub $inf $inf`, "r", notANumber, 0}, {"", `rsub $-0 %0`, "r", "9223372036854775808", 0}, {"", `rsub $normal $least`, "r", "4503599627370495", 0},
		{"", `rmul $least %0.5`, "r", "0", 0}, {"", `rmul $least %1.5`, "r", "2", 0}, {"", `rmul %-1 %0`, "r", "9223372036854775808", 0}, {"", `rmul $inf %0`, "r", notANumber, 0}, {"", `rmul $greatest %2`, "r", infinity, 0}, {"", `rmul %-1 $inf`, "r", "18442240474082181120", 0},
		{"", `rdiv %1 %0`, "r", infinity, 0}, {"", `rdiv %1 $-0`, "r", "18442240474082181120", 0}, {"", `rdiv %1 %3`, "r", "4599676419421066581", 0}, {"", `rdiv %0 %0`, "r", notANumber, 0}, {"", `rdiv $inf $inf`, "r", notANumber, 0}, {"", `rdiv %1 $inf`, "r", "0", 0},
		{"", `rneg %0`, "r", "9223372036854775808", 0}, {"", `rneg $-0`, "r", "0", 0}, {"", `rneg %-2.5`, "r", "4612811918334230528", 0}, {"", `rneg $odd`, "r", notANumber, 0}, {"", `rneg $nan`, "r", notANumber, 0}, {"", `rneg $inf`, "r", "18442240474082181120", 0},
		{"", `rlt %1 %2`, "t", "true", 0}, {"", `rlt %2 %2`, "t", "false", 0}, {"", `rlt $-0 %0`, "t", "false", 0}, {"", `rlt $nan $nan`, "t", "false", 0}, {"", `rlt $odd %1`, "t", "false", 0}, {"", `rlt %1 $-nan`, "t", "false", 0}, {"", `rlt $-inf $inf`, "t", "true", 0}, {"", `rlt $-least %0`, "t", "true", 0}, {"", `rlt $greatest $inf`, "t", "true", 0},
		{"", `rle $-0 %0`, "t", "true", 0}, {"", `rle %0 $-0`, "t", "true", 0}, {"", `rle $nan $nan`, "t", "false", 0}, {"", `rle $odd $odd`, "t", "false", 0}, {"", `rle $inf $inf`, "t", "true", 0}, {"", `rle %3 %2`, "t", "false", 0},
		{"", `rfromint 0`, "r", "0", 0}, {"", `rfromint 9007199254740993`, "r", "4845873199050653696", 0}, {"", `rfromint 9007199254740995`, "r", "4845873199050653698", 0}, {"", `rfromint ~1`, "r", "13830554455654793216", 0}, {"", `rfromint $more`, "r", infinity, 0}, {"", `rfromint $32`, "r", infinity, 0}, {"", `rfromint $31`, "r", "9074753249151549440", 0}, {"", `rfromint $-most`, "r", "18442240474082181120", 0}, {"", `rfromint 18446744073709551615`, "r", "4895412794951729152", 0},
		{"", `rfloor %2.5`, "i", "2", 0}, {"", `rfloor %-2.5`, "i", "~3", 0}, {"", `rfloor %-2`, "i", "~2", 0}, {"", `rfloor $-0`, "i", "0", 0}, {"", `rfloor $least`, "i", "0", 0}, {"", `rfloor $-least`, "i", "~1", 0}, {"", `rfloor %1e22`, "i", "10000000000000000000000", 0}, {"", `rfloor %-1e22`, "i", "~10000000000000000000000", 0}, {"", `rfloor $inf`, "i", "Domain", 0}, {"", `rfloor $-inf`, "i", "Domain", 0}, {"", `rfloor $nan`, "i", "Domain", 0}, {"", `rfloor $odd`, "i", "Domain", 0}, {"", `rfloor $greatest`, "-", "", 2},
		{"", `rbits %1`, "i", "4607182418800017408", 0}, {"", `rbits $odd`, "i", notANumber, 0}, {"", `rbits $-nan`, "i", notANumber, 0}, {"", `rbits $nan`, "i", notANumber, 0}, {"", `rbits $least`, "i", "1", 0}, {"", `rbits $-0`, "i", "9223372036854775808", 0}, {"", `rbits $-inf`, "i", "18442240474082181120", 0},
		{`let 5 = rdiv %0 %0; let 5 = rneg v5;`, `rbits v5`, "i", notANumber, 0}, {`let 5 = rsub $inf $inf;`, `rle v5 v5`, "t", "false", 0},
	}
}

func textRows() []primRow {
	return []primRow{
		{"", `cat "ab" "c"`, "s", "abc", 0}, {"", `cat "" ""`, "s", "", 0}, {"", `cat $t63 ""`, "-", "", 0}, {"", `cat "" $t64`, "-", "", 1}, {"", `cat $t64 $t63`, "-", "", 1}, {"", `cat $t64 $t64`, "-", "", 2}, {"", `cat $middle $middle`, "-", "", 1024}, {"", `cat $text ""`, "-", "", 1024}, {"", `cat $text "a"`, "s", "Size", 0}, {"", `cat "a" $text`, "s", "Size", 0}, {"", `cat $text $text`, "s", "Size", 0},
		{"", `size ""`, "i", "0", 0}, {"", `size $text`, "i", "65536", 0}, {"", `size $bytes`, "i", "3", 0},
		{"", `ssub "ab" 0`, "c", "97", 0}, {"", `ssub $bytes 2`, "c", "255", 0}, {"", `ssub "ab" 2`, "c", "Subscript", 0}, {"", `ssub "ab" ~1`, "c", "Subscript", 0}, {"", `ssub "" 0`, "c", "Subscript", 0}, {"", `ssub "ab" $more`, "c", "Subscript", 0}, {"", `ssub "ab" 18446744073709551616`, "c", "Subscript", 0},
		{"", `substring "abc" 1 2`, "s", "bc", 0}, {"", `substring "abc" 0 3`, "s", "abc", 0}, {"", `substring "abc" 3 0`, "s", "", 0}, {"", `substring "" 0 0`, "s", "", 0}, {"", `substring "abc" 4 0`, "s", "Subscript", 0}, {"", `substring "abc" 4 ~1`, "s", "Subscript", 0}, {"", `substring "abc" ~1 1`, "s", "Subscript", 0}, {"", `substring "abc" 1 ~1`, "s", "Subscript", 0}, {"", `substring "abc" 2 2`, "s", "Subscript", 0}, {"", `substring "abc" $most $-most`, "s", "Subscript", 0}, {"", `substring "abc" $-most $most`, "s", "Subscript", 0}, {"", `substring "abc" 1 18446744073709551617`, "s", "Subscript", 0}, {"", `substring $text 5 63`, "-", "", 0}, {"", `substring $text 5 128`, "-", "", 2}, {"", `substring $text 0 65536`, "-", "", 1024}, {"", `substring $text 1 65536`, "s", "Subscript", 0},
		{"", `slt "ab" "b"`, "t", "true", 0}, {"", `slt "a" "ab"`, "t", "true", 0}, {"", `slt "ab" "ab"`, "t", "false", 0}, {"", `slt "" $bytes`, "t", "true", 0}, {"", `slt "b" "ab"`, "t", "false", 0}, {"", `slt $t64 $t63`, "t", "false", 0}, {"", `sle "ab" "ab"`, "t", "true", 0}, {"", `sle "" ""`, "t", "true", 0}, {"", `sle "b" "ab"`, "t", "false", 0}, {"", `sle $text $text`, "t", "true", 0},
		{"", `str #97`, "s", "a", 0}, {"", `str #354`, "s", "b", 0}, {"", `str #1073741664`, "s", "`", 0},
		{"", `print ""`, "u", "", 0}, {"", `print $t63`, "u", "", 0}, {"", `print $t64`, "u", "", 1}, {"", `print $t128`, "u", "", 2}, {"", `eprint "a"`, "u", "", 0}, {"", `eprint $t128`, "u", "", 2},
		{"", `inputline 1`, "s", "one\n", 0}, {`let 5 = inputline %1;`, `inputline v5`, "s", "two\n", 0}, {`let 5 = inputline #1; let 5 = inputline v5;`, `inputline v5`, "s", "\n", 0}, {`let 5 = inputline !1; let 5 = inputline v5; let 5 = inputline v5;`, `inputline v5`, "s", "end", 0}, {`let 5 = inputline 1; let 5 = inputline v5; let 5 = inputline v5; let 5 = inputline v5;`, `inputline v5`, "s", "", 0},
		{"", `readfile "f"`, "s", "data", 0}, {"", `readfile "none"`, "s", "Io", 0}, {"", `readfile ""`, "s", "Io", 0}, {"", `readfile $nought`, "s", "Io", 0}, {"", `readfile $t256`, "s", "Io", 0}, {"", `readfile "longer"`, "s", "Io", 0}, {"", `readfile "long"`, "-", "", 1024},
		{"", `writefile "g" "a"`, "u", "", 0}, {"", `writefile "g" $t64`, "u", "", 1}, {"", `writefile $t255 $t63`, "u", "", 0}, {"", `writefile $t256 $t128`, "u", "Io", 0}, {"", `writefile "" $text`, "u", "Io", 0}, {"", `writefile $nought $text`, "u", "Io", 0}, {"", `writefile "g" $text`, "-", "", 1024},
		{`let 5 = writefile "g" $t64;`, `readfile "g"`, "-", "", 1}, {`let 5 = writefile "f" "";`, `readfile "f"`, "s", "", 0},
	}
}

func thingRows() []primRow {
	const list = `let 5 = block 0 "b" #0; let 5 = block 1 v5; let 5 = block 0 "a" v5; let 5 = block 1 v5;`
	const vector = list + ` let 6 = vector v5;`
	const cell = `let 5 = ref 7;`
	const bytes = `let 5 = bnew 3;`
	const many = `let 5 = call f1 17 #0;`
	return []primRow{
		{cell, `get v5`, "i", "7", 0}, {cell + ` let 6 = set v5 "a";`, `get v5`, "s", "a", 0}, {cell, `set v5 8`, "u", "", 0}, {`let 5 = ref $text;`, `get v5`, "-", "", 0}, {`let 5 = ref $most;`, `get v5`, "-", "", 0}, {cell, `set v5 $text`, "u", "", 0}, {"", `ref $text`, "-", "", 0}, {cell, `same v5 v5`, "t", "true", 0}, {cell + ` let 6 = ref 7;`, `same v5 v6`, "t", "false", 0}, {"", `same !0 !0`, "t", "true", 0}, {"", `same !0 !1`, "t", "false", 0}, {"", `get !5`, "s", "Io", 0},
		{cell + ` let 6 = set v5 v5; let 6 = get v5;`, `same v5 v6`, "t", "true", 0},
		{vector, `vlen v6`, "i", "2", 0}, {vector, `vsub v6 0`, "s", "a", 0}, {vector, `vsub v6 1`, "s", "b", 0}, {vector, `vsub v6 2`, "s", "Subscript", 0}, {vector, `vsub v6 ~1`, "s", "Subscript", 0}, {vector, `vsub v6 $more`, "s", "Subscript", 0}, {`let 6 = vector #0;`, `vlen v6`, "i", "0", 0}, {`let 6 = vector #0;`, `vsub v6 0`, "i", "Subscript", 0}, {list, `vector v5`, "-", "", 0},
		{many, `vector v5`, "-", "", 2}, {`let 5 = call f1 7 #0;`, `vector v5`, "-", "", 0}, {`let 5 = call f1 8 #0;`, `vector v5`, "-", "", 1}, {`let 5 = call f1 16 #0;`, `vector v5`, "-", "", 2},
		{"", `bnew 0`, "-", "", 0}, {"", `bnew 63`, "-", "", 0}, {"", `bnew 64`, "-", "", 1}, {"", `bnew 65536`, "-", "", 1024}, {"", `bnew 65537`, "-", "Size", 0}, {"", `bnew ~1`, "-", "Size", 0}, {"", `bnew $more`, "-", "Size", 0}, {"", `bnew 18446744073709551616`, "-", "Size", 0}, {`let 5 = bnew 65536;`, `blen v5`, "i", "65536", 0}, {`let 5 = bnew 0;`, `blen v5`, "i", "0", 0},
		{bytes, `bget v5 2`, "i", "0", 0}, {bytes, `bget v5 3`, "i", "Subscript", 0}, {bytes, `bget v5 ~1`, "i", "Subscript", 0}, {bytes, `bget v5 $more`, "i", "Subscript", 0}, {bytes + ` let 6 = bset v5 1 ~1;`, `bget v5 1`, "i", "255", 0}, {bytes + ` let 6 = bset v5 1 256;`, `bget v5 1`, "i", "0", 0}, {bytes + ` let 6 = bset v5 1 $more;`, `bget v5 1`, "i", "255", 0}, {bytes + ` let 6 = bset v5 1 ~1;`, `bget v5 0`, "i", "0", 0}, {bytes + ` let 6 = bset v5 1 ~1;`, `bget v5 2`, "i", "0", 0}, {bytes, `bset v5 0 1`, "u", "", 0}, {bytes, `bset v5 3 1`, "u", "Subscript", 0}, {bytes, `bset v5 ~1 1`, "u", "Subscript", 0}, {`let 5 = bnew 0;`, `bset v5 0 0`, "u", "Subscript", 0}, {`let 5 = bnew 65536; let 6 = bset v5 65535 7;`, `bget v5 65535`, "i", "7", 0},
	}
}

func equalRows() []primRow {
	const two = `let 5 = block 0 1 "a"; let 6 = block 0 1 "a";`
	const nested = `let 7 = block 2 #1; let 5 = block 1 v7 1 v7; let 8 = block 2 #1; let 6 = block 1 v8 1 v8;`
	const vectors = `let 7 = block 0 1 #0; let 7 = block 1 v7; let 5 = vector v7; let 6 = vector v7;`
	return []primRow{
		{"", `eq 3 3`, "t", "true", 0}, {"", `eq 3 ~3`, "t", "false", 0}, {"", `eq $most $most`, "t", "true", 0}, {"", `eq $most $more`, "t", "false", 0}, {"", `eq #3 #3`, "t", "true", 0}, {"", `eq #3 #4`, "t", "false", 0}, {"", `eq "abc" "abc"`, "t", "true", 0}, {"", `eq "abc" "abd"`, "t", "false", 0}, {"", `eq "" "a"`, "t", "false", 0}, {"", `eq $text $text`, "t", "true", 0}, {"", `eq !2 !2`, "t", "true", 0}, {"", `eq !2 !3`, "t", "false", 0},
		{two, `eq v5 v6`, "t", "true", 1}, {two, `eq v5 v5`, "t", "true", 1}, {nested, `eq v5 v6`, "t", "true", 3}, {nested, `eq v5 v5`, "t", "true", 3}, {nested, `eq v5 v8`, "t", "false", 1}, {`let 5 = block 0; let 6 = block 1;`, `eq v5 v6`, "t", "false", 1}, {`let 5 = block 0; let 6 = block 0;`, `eq v5 v6`, "t", "true", 1}, {`let 5 = block 0 1; let 6 = block 0 1 2;`, `eq v5 v6`, "t", "false", 1}, {`let 5 = block 0 %1; let 6 = block 1 %1;`, `eq v5 v6`, "t", "false", 1}, {`let 5 = block 0 %1; let 6 = block 0 %1 1;`, `eq v5 v6`, "t", "false", 1},
		{`let 5 = block 0 1 %1; let 6 = block 0 2 %1;`, `eq v5 v6`, "t", "false", 1}, {`let 7 = block 5; let 5 = block 0 v7 1 v7; let 6 = block 0 v7 2 v7;`, `eq v5 v6`, "t", "false", 2}, {`let 7 = block 5; let 8 = block 6; let 5 = block 0 v7 v7; let 6 = block 0 v8 v7;`, `eq v5 v6`, "t", "false", 2},
		{`let 5 = block 0;`, `eq #0 v5`, "t", "false", 0}, {`let 5 = block 1 %1;`, `eq v5 #1`, "t", "false", 0}, {`let 7 = block 1; let 5 = block 0 #1 v7; let 6 = block 0 v7 v7;`, `eq v5 v6`, "t", "false", 1},
		{vectors, `eq v5 v6`, "t", "true", 1}, {vectors, `eq v5 v5`, "t", "true", 1}, {vectors + ` let 6 = vector #0;`, `eq v5 v6`, "t", "false", 1}, {`let 5 = vector #0; let 6 = vector #0;`, `eq v5 v6`, "t", "true", 1}, {vectors + ` let 5 = block 0 v5; let 6 = block 0 v6;`, `eq v5 v6`, "t", "true", 2}, {vectors + ` let 7 = block 0 2 #0; let 7 = block 1 v7; let 6 = vector v7;`, `eq v5 v6`, "t", "false", 1},
		{`let 5 = ref 1; let 6 = ref 1;`, `eq v5 v6`, "t", "false", 0}, {`let 5 = ref 1;`, `eq v5 v5`, "t", "true", 0}, {`let 5 = ref %1;`, `eq v5 v5`, "t", "true", 0}, {`let 5 = bnew 1; let 6 = bnew 1;`, `eq v5 v6`, "t", "false", 0}, {`let 5 = bnew 1;`, `eq v5 v5`, "t", "true", 0}, {`let 7 = ref 1; let 8 = bnew 2; let 5 = block 0 v7 v8; let 6 = block 0 v7 v8;`, `eq v5 v6`, "t", "true", 1},
		{`let 5 = call f1 10 #0; let 6 = call f1 10 #0;`, `eq v5 v6`, "t", "true", 20}, {`let 5 = call f1 10 #0; let 6 = call f1 9 #0;`, `eq v5 v6`, "t", "false", 18},
	}
}

// arities are the primitives, and how many arguments they have.
func arities() map[string]int { return flow.Prims() }

// P18.2: each primitive, at ordinary arguments and at the edges that chapter 10's table names. What is raised is caught, and its name is
// told.
func TestPrimitives(t *testing.T) {
	const list = `2: let 2 = le v0 0; if v2 { ret v1 } { let 3 = block 0 v0 v1; let 3 = block 1 v3; let 4 = sub v0 1; tail f1 v4 v3 }`
	show := map[string]string{"i": `let 1 = itext v0; ret v1`, "t": `if v0 { ret "true" } { ret "false" }`, "s": `ret v0`, "c": `let 1 = ord v0; let 1 = itext v1; ret v1`, "r": `let 1 = rbits v0; let 1 = itext v1; ret v1`, "u": `let 1 = block 0; let 1 = eq v0 v1; if v1 { ret "" } { ret "no unit" }`, "-": `ret ""`}
	met := map[string]int{}
	for _, r := range slices.Concat(numberRows(), realRows(), textRows(), thingRows(), equalRows()) {
		name, _, _ := strings.Cut(r.op, " ")
		met[name]++
		t.Run(r.lets+r.op, func(t *testing.T) {
			t.Parallel()
			if strings.HasPrefix(r.op, "itext $long") { // this takes very many steps
				p := programWith(t, given(), `let 0 = `+r.op+`; let 0 = eprint v0; ret 1`)
				holdIn(t, p, theWorld(), ample)
				return
			}
			p := programWith(t, given(), r.lets+` try { let 0 = `+r.op+`; `+show[r.show]+` } catch 1 { let 2 = field 0 v1; let 3 = get v2; ret v3 } then 4; let 4 = eprint v4; ret 1`, list)
			holdEnd(t, p, theWorld())
			p = programWith(t, given(), r.lets+` let 0 = `+r.op+`; ret 1`, list)
			holdEnd(t, p, theWorld())
		})
	}
	for name := range arities() {
		if met[name] == 0 && name != "exit" {
			t.Errorf("%s is not held", name)
		}
	}
}

// Worlds with input and files.
func TestWorlds(t *testing.T) {
	hold(t, []row{
		{funs{`let 0 = inputline 1; let 0 = print v0; let 0 = inputline 1; let 0 = print v0; ret 1`}, "one\ntwo\n; exited 0", 5},
		{funs{`let 0 = readfile "f"; let 0 = writefile "g" v0; let 0 = readfile "g"; let 0 = print v0; ret 1`}, "file g data; data; exited 0", 5},
		{funs{`let 0 = writefile "f" "new"; let 0 = readfile "f"; let 0 = print v0; ret 1`}, "file f new; new; exited 0", 4},
		{funs{`let 0 = print "a"; let 0 = eprint "b"; let 0 = print "c"; let 0 = print "d"; ret 1`}, "a; err b; cd; exited 0", 5},
		{funs{`let 0 = writefile "g" "a"; let 0 = writefile "g" "b"; let 0 = writefile "h" ""; ret 1`}, "file g a; file g b; file h ; exited 0", 4},
		{funs{`try { let 0 = readfile "none"; ret v0 } catch 0 { ret "none" } then 1; let 1 = print v1; ret 1`}, "none; exited 0", 5},
	})
	most := strings.Repeat("x", api.MaxString-1) + "\n"
	w := api.World{Stdin: "x" + most + "next\n" + most}
	holdEnd(t, program(t, `try { let 0 = inputline 1; ret "no" } catch 0 { let 0 = field 0 v0; let 0 = get v0; ret v0 } then 1; let 1 = print v1; let 2 = inputline 1; let 2 = print v2; let 2 = inputline 1; let 2 = print "end"; ret 1`), w)
	w = api.World{Files: []api.File{{Name: "", Data: "x"}, {Name: "a", Data: "first"}, {Name: "a", Data: "second"}, {Name: "b\x00", Data: "x"}}}
	holdEnd(t, program(t, `let 0 = readfile "a"; let 0 = print v0; let 0 = inputline 1; let 0 = print v0; let 0 = readfile ""; ret 1`), w)
}

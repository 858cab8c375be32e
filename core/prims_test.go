package core_test

import (
	"math"
	"slices"
	"strings"
	"testing"

	"smithy/api"
	"smithy/big"
	"smithy/prim"
)

func whole(n int) api.Core { return api.Core{Kind: api.CoreInt, Int: big.Of(int64(n))} }

// limbs is the greatest integer of so many limbs.
func limbs(many int) api.Core {
	return api.Core{Kind: api.CoreInt, Int: api.Int{Mag: slices.Repeat([]uint32{math.MaxUint32}, many)}}
}

func real(bits uint64) api.Core { return api.Core{Kind: api.CoreReal, Bits: bits} }

func text(n int) api.Core {
	return api.Core{Kind: api.CoreText, Text: strings.Repeat("t", n)}
}

// given are terms that are too great to be written.
func given() map[string]api.Core {
	return map[string]api.Core{
		"most": limbs(api.MaxLimbs), "more": limbs(api.MaxLimbs + 1), "half": limbs(api.MaxLimbs / 2), "15": limbs(15), "16": limbs(16), "long": limbs(6803), "longer": limbs(6804),
		"text": text(api.MaxString), "middle": text(api.MaxString / 2), "64": text(64), "63": text(63), "256": text(256),
		"inf": real(0x7FF0000000000000), "-inf": real(0xFFF0000000000000), "nan": real(0x7FF8000000000000), "odd": real(0xFFF0000000000001), "-0": real(1 << 63), "least": real(1), "greatest": real(0x7FEFFFFFFFFFFFFF),
	}
}

// P7.3: each primitive, at ordinary arguments and at the edges that chapter 10 names. Each row is shown by an integer's text (i),
// as a truth (t), as a text (s), as the integer of a small number (c), by a real's bits (r), or not at all (u); what is raised is caught.
func TestPrimitives(t *testing.T) {
	const list = `[1 [0 "a" [1 [0 "b" #0]]]]`
	rows := []struct{ show, term, want string }{
		{"i", `(add 2 3)`, "5"}, {"i", `(add $most 0)`, ""}, {"s", `(itext (add $most 1))`, "Size"}, {"i", `(sub 2 3)`, "~1"}, {"i", `(sub $more $more)`, "0"}, {"i", `(sub 0 $more)`, "Size"},
		{"i", `(mul ~4 3)`, "~12"}, {"i", `(mul $half $half)`, ""}, {"i", `(mul $half $most)`, "Size"}, {"i", `(mul $more 0)`, "0"}, {"i", `(neg 7)`, "~7"}, {"i", `(neg 0)`, "0"}, {"i", `(neg $more)`, "Size"},
		{"i", `(div 7 2)`, "3"}, {"i", `(div ~7 2)`, "~4"}, {"i", `(div 7 0)`, "Div"}, {"i", `(div $more 0)`, "Div"}, {"i", `(div $more 1)`, "Size"}, {"i", `(mod ~7 2)`, "1"}, {"i", `(mod 7 ~2)`, "~1"}, {"i", `(mod 1 0)`, "Div"}, {"i", `(mod ~1 $more)`, "Size"}, {"i", `(mod $more 2)`, "1"},
		{"t", `(lt 1 2)`, "true"}, {"t", `(lt 2 2)`, "false"}, {"t", `(lt $more $most)`, "false"}, {"t", `(le 2 2)`, "true"}, {"t", `(le 3 2)`, "false"},
		{"r", `(radd %0.1 %0.2)`, "4599075939470750516"}, {"r", `(radd $greatest $greatest)`, "9218868437227405312"}, {"r", `(radd $inf $-inf)`, "9221120237041090560"}, {"r", `(rsub %1 %1)`, "0"}, {"r", `(rmul $least %0.5)`, "0"}, {"r", `(rmul %-1 %0)`, "9223372036854775808"}, {"r", `(rdiv %1 $-0)`, "18442240474082181120"}, {"r", `(rdiv %1 %3)`, "4599676419421066581"},
		{"r", `(rneg %0)`, "9223372036854775808"}, {"r", `(rneg $odd)`, "9221120237041090560"}, {"t", `(rlt %1 %2)`, "true"}, {"t", `(rlt $nan $nan)`, "false"}, {"t", `(rle $-0 %0)`, "true"}, {"t", `(rle $nan $nan)`, "false"}, {"t", `(rlt $-inf $inf)`, "true"},
		{"r", `(rfromint 9007199254740993)`, "4845873199050653696"}, {"r", `(rfromint $more)`, "9218868437227405312"}, {"r", `(rfromint 0)`, "0"}, {"i", `(rfloor %-2.5)`, "~3"}, {"i", `(rfloor %1e22)`, "10000000000000000000000"}, {"i", `(rfloor $inf)`, "Domain"}, {"i", `(rfloor $odd)`, "Domain"}, {"i", `(rfloor $-0)`, "0"},
		{"i", `(rbits $odd)`, "9221120237041090560"}, {"i", `(rbits $least)`, "1"}, {"s", `(itext ~12)`, "~12"}, {"u", `(itext $long)`, ""}, {"u", `(itext $longer)`, "Size"},
		{"s", `(cat "ab" "c")`, "abc"}, {"i", `(size (cat $middle $middle))`, "65536"}, {"s", `(cat $text "a")`, "Size"}, {"s", `(cat $text "")`, ""}, {"i", `(size "")`, "0"}, {"i", `(size $text)`, "65536"},
		{"c", `(ssub "abc" 2)`, "99"}, {"c", `(ssub "abc" 3)`, "Subscript"}, {"c", `(ssub "abc" ~1)`, "Subscript"}, {"c", `(ssub "abc" $more)`, "Subscript"}, {"c", `(ssub "" 0)`, "Subscript"},
		{"s", `(substring "abc" 1 2)`, "bc"}, {"s", `(substring "abc" 3 0)`, ""}, {"s", `(substring "abc" 2 2)`, "Subscript"}, {"s", `(substring "abc" ~1 2)`, "Subscript"}, {"s", `(substring "abc" 1 ~1)`, "Subscript"}, {"s", `(substring "abc" 4 ~1)`, "Subscript"}, {"s", `(substring "abc" $more $more)`, "Subscript"},
		{"t", `(slt "a" "ab")`, "true"}, {"t", `(slt "b" "ab")`, "false"}, {"t", `(sle "ab" "ab")`, "true"}, {"t", `(sle "b" "ab")`, "false"}, {"t", `(clt #1 #2)`, "true"}, {"t", `(clt #2 #2)`, "false"}, {"t", `(cle #2 #2)`, "true"}, {"t", `(cle #1073741823 #2)`, "false"},
		{"c", `(chr 255)`, "255"}, {"c", `(chr 256)`, "Chr"}, {"c", `(chr ~1)`, "Chr"}, {"c", `(chr $more)`, "Chr"}, {"i", `(ord #1073741823)`, "1073741823"}, {"s", `(str #65)`, "A"}, {"s", `(str #321)`, "A"},
		{"t", `(eq 1 1)`, "true"}, {"t", `(eq $more $more)`, "true"}, {"t", `(eq "a" "b")`, "false"}, {"t", `(eq #1 [1])`, "false"}, {"t", `(eq [1 2 [3]] [1 2 [3]])`, "true"}, {"t", `(eq [1 2] [1 3])`, "false"}, {"t", `(eq [1] [2])`, "false"}, {"t", `(eq [1 1] [1])`, "false"}, {"t", `(eq [0 1 %1] [0 2 %1])`, "false"},
		{"t", `(eq (vector ` + list + `) (vector ` + list + `))`, "true"}, {"t", `(eq (ref 1) (ref 1))`, "false"}, {"t", `(let c (ref 1) (eq c c))`, "true"}, {"t", `(let b (bnew 1) (eq b b))`, "true"}, {"t", `(eq (bnew 1) (bnew 1))`, "false"}, {"t", `(eq !2 !2)`, "true"}, {"t", `(eq !2 !3)`, "false"},
		{"i", `(get (ref 7))`, "7"}, {"i", `(let c (ref 7) (let u (set c 8) (get c)))`, "8"}, {"t", `(eq (set (ref 7) 8) [0])`, "true"}, {"t", `(same (ref 1) (ref 1))`, "false"}, {"t", `(let c (ref 1) (same c c))`, "true"}, {"t", `(same !0 !0)`, "true"},
		{"i", `(vlen (vector ` + list + `))`, "2"}, {"i", `(vlen (vector #0))`, "0"}, {"s", `(vsub (vector ` + list + `) 1)`, "b"}, {"s", `(vsub (vector ` + list + `) 2)`, "Subscript"}, {"s", `(vsub (vector ` + list + `) ~1)`, "Subscript"}, {"s", `(vsub (vector #0) $more)`, "Subscript"},
		{"i", `(blen (bnew 65536))`, "65536"}, {"i", `(blen (bnew 65537))`, "Size"}, {"i", `(blen (bnew ~1))`, "Size"}, {"i", `(bget (bnew 3) 2)`, "0"}, {"i", `(bget (bnew 3) 3)`, "Subscript"}, {"i", `(bget (bnew 3) ~1)`, "Subscript"}, {"i", `(let b (bnew 3) (let u (bset b 1 ~1) (bget b 1)))`, "255"}, {"i", `(let b (bnew 3) (let u (bset b 1 256) (bget b 1)))`, "0"}, {"i", `(let b (bnew 3) (let u (bset b 1 ~1) (bget b 0)))`, "0"}, {"t", `(eq (bset (bnew 1) 0 1) [0])`, "true"}, {"u", `(bset (bnew 3) 3 1)`, "Subscript"},
		{"t", `(eq (print "") [0])`, "true"}, {"t", `(eq (eprint "") [0])`, "true"}, {"s", `(inputline 1)`, "one\n"}, {"s", `(let u (inputline [0]) (inputline (fn x x)))`, "two\n"}, {"s", `(readfile "f")`, "data"}, {"s", `(readfile "none")`, "Io"}, {"s", `(readfile "longer")`, "Io"}, {"i", `(size (readfile "long"))`, "65536"}, {"u", `(writefile "" "a")`, "Io"}, {"u", `(writefile $256 "a")`, "Io"},
		{"s", `(let u (inputline 0) (let u (inputline 0) (let u (inputline 0) (inputline 0))))`, "end"}, {"s", `(let u (inputline 0) (let u (inputline 0) (let u (inputline 0) (let u (inputline 0) (inputline 0)))))`, ""},
	}
	show := map[string]string{"i": "(itext %)", "t": `(if % "true" "false")`, "s": "%", "c": "(itext (ord %))", "r": "(itext (rbits %))", "u": `(let u % "")`}
	met := map[string]int{}
	for _, r := range rows {
		c := termWith(t, `(print (handle `+strings.Replace(show[r.show], "%", r.term, 1)+` x (get (field 0 x))))`, given())
		got := strings.TrimSuffix(strings.TrimSuffix(told(run(t, c, api.MaxFuel)), "exited 0"), "; ")
		if got != r.want && (r.want != "" || len(got) < 1000) {
			t.Errorf("%s: %.100s, not %s", r.term, got, r.want)
		}
		for _, w := range words(r.term) {
			met[w]++
		}
	}
	for name := range prim.Primitives() {
		if met[name] == 0 && name != "exit" {
			t.Errorf("%s is not held", name)
		}
	}
}

// What primitives cost is paid beside the steps of terms.
func TestCosts(t *testing.T) {
	for _, r := range []struct {
		term  string
		steps int
	}{
		{`(add $15 0)`, 3}, {`(add $15 1)`, 4}, {`(add $16 0)`, 4}, {`(neg $most)`, 2 + 64}, {`(cat $63 "")`, 3}, {`(cat $64 "")`, 4}, {`(cat $middle $middle)`, 3 + 1024}, {`(print $63)`, 2}, {`(print $64)`, 3}, {`(eprint $256)`, 6}, {`(writefile "f" $256)`, 7}, {`(size $text)`, 2},
		{`(bnew 63)`, 2}, {`(bnew 64)`, 3}, {`(substring $text 5 640)`, 4 + 10}, {`(readfile "long")`, 2 + 1024}, {`(eq [0 [1] [2]] [0 [1] [2]])`, 7 + 3}, {`(eq [0 [1] [2]] [0 [2] [2]])`, 7 + 2}, {`(eq [0] [1])`, 3 + 1}, {`(itext $16)`, 2 + 2}, {`(handle (cat $text $text) x 0)`, 5}, {`(ref $text)`, 2},
	} {
		if got := steps(t, termWith(t, r.term, given())); got != r.steps {
			t.Errorf("%s: %d steps, not %d", r.term, got, r.steps)
		}
	}
	c := termWith(t, `(let u (print "a") (print $256))`, given())
	for fuel, want := range map[int]string{8: "a; running", 9: "a" + strings.Repeat("t", 256) + "; exited 0"} {
		if got := told(run(t, c, fuel)); got != want {
			t.Errorf("%d: %s", fuel, got)
		}
	}
}

// Of values of other kinds a primitive is stuck, its arguments being done.
func TestWrongKinds(t *testing.T) {
	of := map[byte]string{'a': `1`, 'x': `%1`, 's': `"f"`, 'c': `#0`, 'r': `(ref 1)`, 'v': `(vector [1 [0 1 #0]])`, 'b': `(bnew 2)`, 'k': `[0]`, 'f': `(fn x x)`}
	held := 0
	for _, r := range strings.Fields("add:aa sub:aa mul:aa neg:a div:aa mod:aa lt:aa le:aa radd:xx rsub:xx rmul:xx rdiv:xx rneg:x rlt:xx rle:xx rfromint:a rfloor:x rbits:x itext:a cat:ss size:s ssub:sa substring:saa " +
		"slt:ss sle:ss clt:cc cle:cc chr:a ord:c str:c ref:? get:r set:r? same:rr vector:c vlen:v vsub:va bnew:a blen:b bget:ba bset:baa print:s eprint:s inputline:? readfile:s writefile:ss exit:a") {
		name, kinds, _ := strings.Cut(r, ":")
		held++
		for i := range len(kinds) {
			for kind := range of {
				text := "(" + name
				for j := range len(kinds) {
					with := kinds[j]
					if with == '?' {
						with = 'f'
					}
					if i == j {
						with = kind
					}
					text += ` (let u (eprint "x") ` + of[with] + `)`
				}
				got, want := run(t, term(t, text+")"), 50), kind != kinds[i] && kinds[i] != '?'
				if (got.Status == api.Stuck) != want || strings.Count(got.Trace[0].Text, "x") < len(kinds) {
					t.Errorf("%s): %s", text, told(got))
				}
			}
		}
	}
	if held != len(prim.Primitives())-1 {
		t.Errorf("%d primitives", held)
	}
	for _, args := range []string{`1 #1`, `%1 %1`, `(fn x x) (fn x x)`, `"a" #1`, `1 [0]`, `(ref 1) (bnew 1)`, `(vector #0) [0]`, `[0 %1] [0 %1]`, `[0 (fn x x)] [0 #0]`, `"a" 1`, `(ref 1) #0`} {
		if got := told(run(t, term(t, "(eq "+args+")"), 50)); got != "stuck" {
			t.Errorf("eq %s: %s", args, got)
		}
	}
	for _, list := range []string{`#1`, `[0]`, `[1]`, `[1 #0]`, `[1 [0 1]]`, `[1 [1 1 #0]]`, `[2 [0 1 #0]]`, `[1 [0 1 #7]]`, `[1 [0 1 0]]`, `[1 [0 1 #0] #0]`} {
		if got := told(run(t, term(t, "(vector "+list+")"), 50)); got != "stuck" {
			t.Errorf("vector %s: %s", list, got)
		}
	}
}

// Worlds with input and files.
func TestWorlds(t *testing.T) {
	hold(t, []row{
		{`(let u (print (inputline 0)) (print (inputline 0)))`, "one\ntwo\n; exited 0", 7},
		{`(let u (writefile "g" (readfile "f")) (print (readfile "g")))`, "file g data; data; exited 0", 8},
		{`(let u (writefile "f" "new") (print (readfile "f")))`, "file f new; new; exited 0", 7},
		{`(let u (print "a") (let u (eprint "b") (let u (print "c") (print "d"))))`, "a; err b; cd; exited 0", 11},
		{`(handle (print (readfile "none")) x (print "none"))`, "none; exited 0", 6},
	})
}

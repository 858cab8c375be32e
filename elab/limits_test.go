package elab_test

import (
	"reflect"
	"strconv"
	"strings"
	"testing"

	"smithy/api"
	"smithy/core"
	"smithy/elab"
	"smithy/syntax"
	"smithy/types"
)

// deep is how deep a term is nested.
func deep(c *api.Core) int {
	most := 0
	for i := range c.Kids {
		most = max(most, deep(&c.Kids[i]))
	}
	for i := range c.Rows {
		most = max(most, deep(&c.Rows[i].E), deepShape(&c.Rows[i].S))
	}
	return most + 1
}

func deepShape(s *api.Shape) int {
	most := 0
	for i := range s.Kids {
		most = max(most, deepShape(&s.Kids[i]))
	}
	return most + 1
}

// refused tells whether declarations have no term; then it is the zero one.
func refused(t *testing.T, l []api.Dec) bool {
	t.Helper()
	c, e := elab.Core(l)
	if e == api.OK {
		return false
	}
	if e != api.ErrCore || !reflect.DeepEqual(c, api.Core{}) {
		t.Errorf("%v, %.200v", e, c)
	}
	return true
}

// greatest is the greatest number of parts with which a program is not refused, and its term.
func greatest(t *testing.T, most int, program func(n int) string) (int, api.Core) {
	t.Helper()
	low, high := 1, most
	if refused(t, typed(t, program(low))) || !refused(t, typed(t, program(high))) {
		t.Fatalf("%.100s: not between %d and %d parts", program(1), low, high)
	}
	for low+1 < high {
		if middle := (low + high) / 2; refused(t, typed(t, program(middle))) {
			high = middle
		} else {
			low = middle
		}
	}
	return low, made(t, typed(t, program(low)))
}

// P8.1: ErrCore, if the term is too deep; not, if it is as deep as may be.
func TestTooDeep(t *testing.T) {
	t.Parallel()
	for _, program := range []func(n int) string{
		func(n int) string { return "val _ = (1" + strings.Repeat(";1", n) + ")" },
		func(n int) string { return "val _ = let in 1" + strings.Repeat(";1", n) + " end" },
		func(n int) string { return "val _ = [" + strings.Repeat("1,", n) + "1]" },
		func(n int) string { return "val _ = ([" + strings.Repeat("1,", n) + "1], 1)" },
		func(n int) string { return "val f = fn [" + strings.Repeat("_,", n) + "1] => 1" },
		func(n int) string { return "val [" + strings.Repeat("_,", n) + "1] = [] : int list val x = 1" },
	} {
		n, c := greatest(t, 20000, program)
		if d := deep(&c); d > api.MaxTerm || d < api.MaxTerm-1 {
			t.Errorf("%.30s: %d parts are %d deep", program(1), n, d)
		}
		if !refused(t, typed(t, program(30000))) {
			t.Errorf("%.30s: not refused", program(1))
		}
	}
	// as deep as may be, and one deeper
	both := func(n int) string { return "val _ = (1" + strings.Repeat(";1", n) + ")" }
	n, c := greatest(t, 20000, both)
	if deep(&c) != api.MaxTerm || n != api.MaxTerm-2 {
		t.Errorf("%d parts, %d deep", n, deep(&c))
	}
}

// P8.1: ErrCore, if the term has too many nodes; not, if it has as many as may be.
func TestTooMany(t *testing.T) {
	t.Parallel()
	lists := func(n, more int) string {
		var l []string
		for ; n > 0; n -= 500 {
			l = append(l, "["+strings.TrimSuffix(strings.Repeat(">,", min(n, 500)), ",")+"]")
		}
		return "nonfix > val _ = (" + strings.Join(l, ",") + strings.Repeat(",1", more) + ")"
	}
	n, c := greatest(t, 32000, func(n int) string { return lists(n, 2) })
	more := 2 + api.MaxCode - core.Size(c)
	if more > 10 {
		t.Errorf("%d parts have %d nodes", n, core.Size(c))
	}
	if l := typed(t, lists(n, more)); core.Size(made(t, l)) != api.MaxCode {
		t.Errorf("%d nodes", core.Size(made(t, l)))
	}
	if l := typed(t, lists(n, more+1)); !refused(t, l) {
		t.Error("too many nodes")
	}
}

// row of things, with something between them.
func many(n int, between string, one func(i int) string) string {
	var out []string
	for i := range n {
		out = append(out, one(i))
	}
	return strings.Join(out, between)
}

func name(i int) string { return "x" + strconv.Itoa(i) }

// P8.1: records, patterns and functions as wide as they may be; wider ones, which have no types, are refused.
func TestWide(t *testing.T) {
	t.Parallel()
	wide := func(i int) string { return "a" + strconv.Itoa(1023-i) + "=" + strconv.Itoa(i) }
	bound := func(i int) string { return "a" + strconv.Itoa(i) + "=" + name(i) }
	wild := func(i int) string { return "1" }
	hundred := func(i int) string { // what is nested is no deeper than it may be
		return "val f = f " + many(100, " ", func(j int) string { return strconv.Itoa(100*i + j) })
	}
	hold(t, []row{
		{many(4000, " ", func(i int) string { return "val " + name(i) + "=" + strconv.Itoa(i) }) + " val _ = print (Int.toString (x0 + x3999 * 10))", "39990"},
		{"val r = {" + many(1024, ",", wide) + "} val _ = print (Int.toString (#a1000 r)) val {" + many(1024, ",", bound) + "} = r val _ = print (\" \" ^ Int.toString (x24 * 10000 + x1023))", "23 9990000"},
		{"fun f " + many(900, " ", name) + " = x7 - x899 " + many(9, " ", hundred) + " val _ = print (Int.toString f)", "~892"},
		{"fun f " + many(900, " ", wild) + " = 1 | f " + many(900, " ", name) + " = x7 - x899 " + many(9, " ", hundred) + " val _ = print (Int.toString f)", "~892"},
		{"fun f " + many(1024, " ", wild) + " = 1 val _ = print \"f\"", "f"},
		{"val (" + many(500, ",", name) + ") = (" + many(500, ",", strconv.Itoa) + ") val _ = print (Int.toString (x499 - x10))", "489"},
		{"val [" + many(2000, ",", name) + "] = [" + many(2000, ",", strconv.Itoa) + "] val _ = print (Int.toString (x1999 - x10))", "1989"},
		{"datatype t = " + many(1500, " | ", func(i int) string { return "A" + strconv.Itoa(i) + " of int" }) + " val _ = print (case A1444 7 of A1443 n => \"no\" | A1444 n => Int.toString n | _ => \"no\")", "7"},
		{"fun " + many(1200, " and ", func(i int) string {
			return name(i) + " n = if n = 0 then " + strconv.Itoa(i) + " else " + name((i+1)%1200) + " (n - 1)"
		}) + " val _ = print (Int.toString (x1190 20))", "10"},
	})
	for _, program := range []string{"val _ = {" + many(1025, ",", bound) + "}", "fun f " + many(1025, " ", wild) + " = 1", "fun f " + many(1025, " ", name) + " = 1", "val {" + many(1025, ",", bound) + "} = raise Div"} {
		l, m := syntax.Parse(strings.ReplaceAll(program, "=x", "=1"))
		if _, _, e := types.Infer(l); m.Code != api.OK || e != api.ErrType {
			t.Fatal(m, e)
		}
		if !refused(t, l) {
			t.Errorf("%.50s is not refused", program)
		}
	}
}

// A text as long as may be that has as many declarations as there can be is not refused.
func TestManyDeclarations(t *testing.T) {
	t.Parallel()
	for _, one := range []string{"val _=1", "infix+", "val()=()", "exception E ", "structure S=struct end ", "fun f x=1", "val x=1val y=x "} {
		made(t, typed(t, strings.Repeat(one, api.MaxSource/len(one))))
	}
	made(t, typed(t, strings.Repeat("structure S=struct ", 150)+strings.Repeat("val _=1", 8000)+strings.Repeat("end ", 150)))
}

// filling says how a program is filled: with parts one behind the other, or, where a part has a hole, in one another, with
// something in the last one.
type filling struct{ begin, part, last, end string }

// filled is a program with as many parts as 2,000 bytes have room for, or not so many, if it is nested too deep with these, or
// has too great types.
func filled(t *testing.T, f filling) string {
	t.Helper()
	each, after, _ := strings.Cut(f.part, "..")
	n := (2000 - len(f.begin+f.last+f.end)) / len(each+after)
	for ; n > 0; n -= max(1, n/30) {
		program := f.begin + strings.Repeat(each, n) + f.last + strings.Repeat(after, n) + f.end
		if l, m := syntax.Parse(program); m.Code == api.OK {
			if _, _, e := types.Infer(l); e == api.OK {
				return program
			}
		}
	}
	t.Fatalf("%v has no types", f)
	return ""
}

// P8.2: programs of at most 2,000 bytes that repeat each kind of thing as often as they can have terms.
func TestRepeated(t *testing.T) {
	t.Parallel()
	all, short := 0, 0
	for _, f := range []filling{
		{"", "val _=1", "", ""}, {"", "val x=1", "", ""}, {"", "val[]=[]", "", ""}, {"", "val 1=1", "", ""}, {"", "val(_,_)=(1,1)", "", ""}, {"", "val x::_=[1]", "", ""}, {"", "fun f x=1", "", ""}, {"", "fun f 1=1", "", ""}, {"", "fun f 1 2=3", "", ""},
		{"", "exception E ", "", ""}, {"", "exception E of int ", "", ""}, {"", "datatype t=A|B ", "", ""}, {"", "type t=int ", "", ""}, {"", "infix+", "", ""}, {"", "nonfix+", "", ""}, {"", "signature S=sig end ", "", ""}, {"", "structure S=struct end ", "", ""}, {"structure S=struct end ", "structure S=S ", "", ""},
		{"", "structure S=struct exception E end ", "", ""}, {"", "structure S:sig val x:int end=struct val x=1 end ", "", ""}, {"structure S=struct ", "structure S=struct val x=1 end ", "", "end"},
		{"val _=[", "1,", "1", "]"}, {"val _=[", "[],", "[]", "]"}, {"val _=[", "(),", "()", "]"}, {"val _=(", "1,", "1", ")"}, {"val _=(", "(),", "1", ")"}, {"val _=(", "1;", "1", ")"}, {"val _=let in ", "1;", "1", " end"}, {"val _= ", "1+", "1", ""}, {"val _= ", "1::", "[]", ""}, {"val _= ", "1>1orelse ", "true", ""}, {"val _= ", "1>1andalso ", "true", ""}, {"val _= ", "1<>1orelse ", "true", ""},
		{"val r=ref 1 val _=(", "r:=1;", "1", ")"}, {"val _= ", "raise ", "Div", ""}, {"val _= ", "fn x=>", "x", ""}, {"val _= ", "fn 1=>", "1", ""}, {"val _= ", "fn[]=>", "1", ""}, {"val _=1", " handle _=>1", "", ""}, {"val _=1", " handle Div=>1", "", ""}, {"val f=fn x=>x val _=", "f ", "f", ""},
		{"nonfix>val _=(", ">,", "1", ")"}, {"nonfix>val _=[", ">,", ">", "]"}, {"nonfix<>val _=[", "<>,", "<>", "]"}, {"val _=[", "op=,", "op=", "]"}, {"val _=[", "!,", "!", "]"}, {"val _=[", "String.substring,", "String.substring", "]"}, {"val _=[", "Bytes.put,", "Bytes.put", "]"}, {"exception E val _=[", "E,", "E", "]"}, {"exception E of int val _=[", "E,", "E", "]"}, {"val _=[", "Div,", "Div", "]"}, {"val _=[", "op::,", "op::", "]"}, {"val _=[", "#1,", "#1:int*int->int", "]"},
		{"val _=case 1 of ", "1=>1|", "_=>1", ""}, {"val _=fn ", "1=>1|", "_=>1", ""}, {"val _=fn ", "x=>1|", "_=>1", ""}, {"val _=1 handle ", "_=>1|", "_=>1", ""}, {"val _=1 handle ", "Div=>1|", "_=>1", ""}, {"val _=fn ", "[1]=>1|", "_=>1", ""}, {"val _=fn ", "(1,x)=>1|", "_=>1", ""}, {"val _=fn ", "\"\"=>1|", "_=>1", ""}, {"val _=fn[", "_,", "1", "]=>1"}, {"val _=fn(", "_,", "1", ")=>1"}, {"val _=fn ", "_::", "1", "::_=>1"},
		{"fun f ", "_ ", "", "=1"}, {"fun f ", "1 ", "", "=1"}, {"fun f ", "[]", "", "=1"}, {"fun f 1=1", "|f 1=1", "", ""}, {"fun f 1 2=1", "|f x y=1", "", ""}, {"fun f x y=1", "|f x y=1", "", ""},
	} {
		program := filled(t, f)
		if all++; len(program) < 1900 {
			short++
		}
		made(t, typed(t, program))
	}
	if short > all/3 {
		t.Errorf("%d programs of %d are short: what is written so is nested", short, all)
	}
}

// P8.2: programs of at most 2,000 bytes that nest each kind of thing as deep as they can have terms.
func TestNested(t *testing.T) {
	t.Parallel()
	for _, f := range []filling{
		{"val _= ", "[..]", "1", ""}, {"val _= ", "(fn x=>..)", "1", ""}, {"val _= ", "fn 1=>..", "1", ""}, {"val _= ", "fn(1,x)=>..", "x", ""}, {"val _= ", "(..,1)", "1", ""}, {"val _= ", "(1,..)", "1", ""}, {"val _= ", "{b=..,a=1}", "1", ""}, {"val _= ", "{b=1,a=..}", "1", ""}, {"val _= ", "{b=..,a=[1]}", "[]", ""},
		{"val f=fn x=>x val _=", "f(..)", "1", ""}, {"val _= ", "case(..)of _=>1", "1", ""}, {"val _= ", "case 1 of 1=>(..)", "1", ""}, {"val _= ", "case(..)of 1=>1|_=>2", "1", ""}, {"val _= ", "if true then 1 else(..)", "1", ""}, {"val _= ", "if(..)then true else false", "true", ""}, {"val _= ", "let val x=1 in(..)end", "1", ""}, {"val _= ", "let val[x]=(..)in[1]end", "[1]", ""}, {"val _= ", "let fun f x=(..)in f 1 end", "1", ""}, {"val _= ", "let exception E in(..)end", "1", ""},
		{"val _= ", "(..;1)", "1", ""}, {"val _= ", "(1;..)", "1", ""}, {"val _= ", "((..)handle _=>1)", "1", ""}, {"val _= ", "1 handle Div=>..", "1", ""}, {"val _= ", "(..:int)", "1", ""}, {"val _= ", "while true do(..)", "1", ""}, {"val _= ", "while(..)=()do 1", "()", ""}, {"val _= ", "#1(..,1)", "1", ""}, {"val _= ", "#b{b=..,a=1}", "1", ""}, {"val _= ", "op-{2=..,1=1}", "1", ""}, {"val _= ", "op-(..,1)", "1", ""}, {"val _= ", "op<>(..,1=1)", "true", ""}, {"val _= ", "~(..)", "1", ""}, {"val _= ", "ref(..)", "1", ""}, {"val _= ", "raise(..)", "Div", ""},
		{"datatype t=A of t|B val _=fn ", "A(..)", "B", "=>1"}, {"val _=fn ", "[..]", "_", "=>1"}, {"val _=fn ", "(..,_)", "_", "=>1"}, {"val _=fn ", "(..:int)", "_", "=>1"}, {"exception E of exn val _=fn ", "E(..)", "Div", "=>1"}, {"fun f ", "(..,1)", "1", "=1"}, {"val ", "(..,1)", "1", "=raise Div"},
		{"", "structure S=struct ..end ", "val x=1 ", ""}, {"", "structure S=struct val x=1 ..end ", "val x=1 ", ""},
	} {
		made(t, typed(t, filled(t, f)))
	}
	for _, program := range []string{
		"val _=fn " + many(150, "", func(i int) string { return name(i) + " as(" }) + "_" + strings.Repeat(")", 150) + "=>1",
		"fun f " + many(200, " ", name) + "=1|f " + many(100, " ", func(int) string { return "_" }) + strings.Repeat(" 1", 100) + "=1",
		"val {" + many(200, ",", func(i int) string { return name(200-i) + "=1" }) + "}=raise Div",
		"val _={" + many(200, ",", func(i int) string { return name(200-i) + "= !" }) + "}",
	} {
		if len(program) > 2000 {
			t.Errorf("%.50s: %d bytes", program, len(program))
		}
		made(t, typed(t, program))
	}
}

package match_test

import (
	"reflect"
	"slices"
	"strconv"
	"strings"
	"testing"

	"smithy/api"
	"smithy/core"
	"smithy/match"
)

// refused tells whether a term has no switches; then nothing else is told.
func refused(t *testing.T, c api.Core) bool {
	t.Helper()
	s, list, e := match.Switches(c)
	if e == api.OK {
		if core.Check(s) != api.OK || !core.Plain(s) {
			t.Errorf("%.300s may not be, or is not plain", shown(s))
		}
		return false
	}
	if e != api.ErrCore || list != nil || !reflect.DeepEqual(s, api.Core{}) {
		t.Errorf("%v, %v, %.100s", e, list, shown(s))
	}
	return true
}

// filled is a block of so many nodes.
func filled(nodes int) api.Core {
	if nodes == 1 {
		return api.Core{Kind: api.CoreSmall}
	}
	c := api.Core{Kind: api.CoreBlock}
	each := max(1, (nodes-1)/1000)
	for left := nodes - 1; left > 0; {
		n := min(left, each)
		if len(c.Kids) == api.MaxArity-1 {
			n = left
		}
		c.Kids = append(c.Kids, filled(n))
		left -= n
	}
	return c
}

// under is a term so deep under others.
func under(deep int, c api.Core) api.Core {
	for range deep {
		c = node(api.CoreRaise, "", c)
	}
	return c
}

// deep is how deep a term is nested.
func deep(c *api.Core) int {
	most := 0
	for i := range c.Kids {
		most = max(most, deep(&c.Kids[i]))
	}
	for i := range c.Rows {
		most = max(most, deep(&c.Rows[i].E), deepShape(&c.Rows[i].S))
	}
	return most + 1
}

func deepShape(s *api.Shape) int {
	most := 0
	for i := range s.Kids {
		most = max(most, deepShape(&s.Kids[i]))
	}
	return most + 1
}

// named is a case of a name, x, that gives so many fields of a block names, and looks at all of them.
func named(many int) api.Core {
	r := api.Row{S: api.Shape{Kind: api.ShapeBlock, Span: 1}, E: api.Core{Kind: api.CoreBlock}}
	for i := range many {
		n := "n" + strconv.Itoa(i)
		r.S.Kids = append(r.S.Kids, api.Shape{Kind: api.ShapeAny, Name: n})
		r.E.Kids = append(r.E.Kids, name(n))
	}
	return api.Core{Kind: api.CoreCase, Kids: []api.Core{name("x"), smallTerm(0)}, Rows: []api.Row{r}}
}

// greatest is the greatest number with which a term, which may be, has switches.
func greatest(t *testing.T, low, high int, c func(n int) api.Core) int {
	t.Helper()
	if core.Check(c(high)) != api.OK || refused(t, c(low)) || !refused(t, c(high)) {
		t.Fatalf("not between %d and %d", low, high)
	}
	for low+1 < high {
		if middle := (low + high) / 2; refused(t, c(middle)) {
			high = middle
		} else {
			low = middle
		}
	}
	return low
}

// P9.1: ErrCore, if what would be made has too many nodes, or is too deep, though the term is not; not, if it is as great as may be.
func TestTooGreat(t *testing.T) {
	t.Parallel()
	wide := func(n int) api.Core {
		return fn("x", tagged(0, filled(n), named(500), named(500)))
	}
	n := greatest(t, 1000, api.MaxCode-2500, wide)
	s, _ := switched(t, wide(n))
	if core.Size(s) != api.MaxCode {
		t.Errorf("%d nodes", core.Size(s))
	}
	nested := func(n int) api.Core { return under(n, fn("x", named(500))) }
	n = greatest(t, 1000, api.MaxTerm-10, nested)
	s, _ = switched(t, nested(n))
	if deep(&s) != api.MaxTerm {
		t.Errorf("%d deep", deep(&s))
	}
}

// P9.1: what may be without cases has switches, however great: itself.
func TestPlainTerms(t *testing.T) {
	t.Parallel()
	for _, c := range []api.Core{
		filled(api.MaxCode), under(api.MaxTerm-1, smallTerm(3)), filled(1), api.Core{Kind: api.CoreBlock},
		term(t, everything), term(t, `(let x 1 (let x (add x x) (rec (x (fn x (x x))) (y (fn x y)) (handle (x y) x (raise x)))))`),
	} {
		if s, list := switched(t, c); !reflect.DeepEqual(s, c) || list != nil {
			t.Errorf("%.300s, %v, of %.300s", shown(s), list, shown(c))
		}
	}
	for _, c := range []api.Core{filled(api.MaxCode + 1), under(api.MaxTerm, smallTerm(3)), {}, name("x"), {Kind: api.CoreCase}, {Kind: 99}, term(t, "(case 1 (| x 1) x)"), term(t, "(case 1 (| {x 1} 1) 1)"), term(t, "(case 1 (| #2/2 1) 1)")} {
		if !refused(t, c) {
			t.Errorf("%.300s is not refused", shown(c))
		}
		if list, e := match.Warnings(c); e != api.ErrCore || list != nil {
			t.Errorf("%.300s: %v, %v", shown(c), list, e)
		}
	}
}

// everything is a term with all kinds of terms but case.
const everything = `(let e (ref "E") (rec (f (fn n (if (le n 0) [1 n "end"] (f (sub n 1))))) (g (fn n (switch (f n) 0: (raise n) 1: (field 1 (f n)) "none")))
  (let u (print (handle (cat (g 3) (inputline 0)) x (raise x)))
      (let c (ref ~123456789012345678901234567890) (let u (set c (add (get c) 1))
        (handle (raise [0 !3 [2 (get c) #3 %2.5]]) x (eprint "none")))))))`

// P9.1: fields that say nothing of a term of its kind are empty in what is made of it.
func TestMeaning(t *testing.T) {
	full := api.Core{Name: "x", N: 1, Int: api.Int{Mag: []uint32{1}}, Bits: 2, Text: "t", Tags: []int{5}, Names: []string{"f"}}
	for kind, want := range map[int]api.Core{
		api.CoreInt:    {Kind: api.CoreInt, Int: full.Int},
		api.CoreSmall:  {Kind: api.CoreSmall, N: 1},
		api.CoreReal:   {Kind: api.CoreReal, Bits: 2},
		api.CoreText:   {Kind: api.CoreText, Text: "t"},
		api.CoreExn:    {Kind: api.CoreExn, N: 1},
		api.CoreFn:     {Kind: api.CoreFn, Name: "x", Kids: filledWith(1)},
		api.CoreApp:    {Kind: api.CoreApp, Kids: filledWith(2)},
		api.CoreLet:    {Kind: api.CoreLet, Name: "x", Kids: filledWith(2)},
		api.CoreBlock:  {Kind: api.CoreBlock, N: 1, Kids: filledWith(3)},
		api.CoreField:  {Kind: api.CoreField, N: 1, Kids: filledWith(1)},
		api.CoreIf:     {Kind: api.CoreIf, Kids: filledWith(3)},
		api.CoreSwitch: {Kind: api.CoreSwitch, Tags: []int{5}, Kids: filledWith(3)},
		api.CoreRaise:  {Kind: api.CoreRaise, Kids: filledWith(1)},
		api.CoreHandle: {Kind: api.CoreHandle, Name: "x", Kids: filledWith(2)},
	} {
		c := full
		c.Kind, c.Kids = kind, slices.Clone(want.Kids)
		for i := range c.Kids {
			c.Kids[i].Name, c.Kids[i].Text, c.Kids[i].Tags = "junk", "junk", []int{1, 1}
		}
		if s, _ := switched(t, c); !reflect.DeepEqual(s, want) {
			t.Errorf("%+v of kind %d, not %+v", s, kind, want)
		}
	}
}

// filledWith is so many small numbers.
func filledWith(many int) []api.Core { return slices.Repeat([]api.Core{smallTerm(7)}, many) }

// R2: ErrCore is told ahead of ErrLong, of what is given and of what would be made.
func TestErrorsInOrder(t *testing.T) {
	t.Parallel()
	rows := func(n int) []api.Row { return rowsOf(many(n, "|", strconv.Itoa)) }
	if !long(t, caseOf(rows(11000)...)) {
		t.Error("not too long")
	}
	bad := caseOf(append(rows(11000), api.Row{})...)
	if _, e := match.Warnings(bad); e != api.ErrCore || !refused(t, bad) {
		t.Error(e)
	}
	great := tagged(0, caseOf(rows(11000)...), filled(150000))
	if list, e := match.Warnings(great); e != api.ErrLong || list != nil {
		t.Error(e, len(list))
	}
	if core.Check(great) != api.OK || !refused(t, great) {
		t.Error("too great and too long")
	}
}

// P9.1: programs of at most 2,000 bytes are not refused, whatever kinds of cases they are full of (chapter 25 counts on it); and what
// is made of them is not much greater.
func TestShortPrograms(t *testing.T) {
	t.Parallel()
	repeat := func(begin, part, end string) string {
		return begin + strings.Repeat(part, (2000-len(begin+end))/len(part)) + end
	}
	worst := 0.0
	for _, program := range []string{
		repeat("fun f 1=1", "|f 1=1", ""), repeat("fun f(1,1)=1", "|f(1,_)=2|f(_,1)=3", ""), repeat("fun f(_,1)=1", "|f(1,_)=2|f(_,1)=3", "|f(x,y)=x"),
		repeat("val _=fn ", "[1]=>1|", "_=>1"), repeat("val _=fn ", "[x]=>x|y::z=>1|", "_=>1"), repeat("val _=fn ", "(x as(1,y))=>y|", "(_,z)=>z"), repeat("val _=1 handle ", "Div=>1|Chr=>2|", "_=>1"), repeat("exception E of int val _=1 handle ", "E 1=>1|Chr=>2|E x=>x|", "_=>1"),
		repeat("val _=fn[", "_,", "1]=>1"), repeat("val _=fn[", "1,", "x]=>x|_=>1"), repeat("val _=fn(", "_,", "1)=>1"), "val _=fn " + strings.Repeat("1=>fn ", 150) + "_=>1", repeat("", "val 1=1", ""), repeat("", "val[x]=[1]", ""), repeat("", "fun f[]=1|f x=2", ""),
		"datatype t=" + many(250, "|", func(i int) string { return "A" + strconv.Itoa(i) }) + " val _=fn A1=>1|A2=>2", repeat("val _=fn ", `"a"=>1|"b"=>2|`, "_=>1"), repeat("val _=fn ", ` #"a"=>1 |`, "_=>1"),
		repeat("fun f 1 2=3", "|f _ 1=3|f 1 _=4", ""), repeat("fun f true false=3", "|f _ true=3|f true _=4", ""), repeat("fun f(_,1,_)=1", "|f([_,_],_,_)=1|f(_,_,(x,[]))=x", "|f _=2"),
		"fun f " + many(60, "|f ", func(i int) string { return "(" + strings.Repeat("_,", i%6) + "1" + strings.Repeat(",_", 5-i%6) + ")=1" }),
	} {
		if len(program) > 2000 {
			t.Fatalf("%.30s: %d bytes", program, len(program))
		}
		c := termOf(t, program)
		s, _ := switched(t, c)
		worst = max(worst, float64(core.Size(s))/float64(core.Size(c)))
	}
	t.Logf("up to %.2f times as many nodes", worst)
	if worst > 6 {
		t.Errorf("%.2f times as many nodes", worst)
	}
}

// R1: cases that are made to be hard come to an end.
func TestHardCases(t *testing.T) {
	t.Parallel()
	wild := func(n int) string { return strings.Repeat(" _", n) }
	diagonal := func(n int) string {
		return many(n, "|", func(i int) string { return "[0/1" + strings.Repeat(" #0/2", i) + " #1/2" + wild(n-i-1) + "]" })
	}
	spread := func(n int) string { // each row asks about another column
		return many(n, "|", func(i int) string { return "[0/1" + wild(i) + " #" + strconv.Itoa(i%2) + "/2" + wild(n-i-1) + "]" })
	}
	inner := func(n int) string { // a wide shape, behind rows that everything fits but for the last field
		return many(n, "|", func(i int) string { return "[0/1 _ " + strconv.Itoa(i) + "]" }) + "|[0/1 [0/1" + strings.Repeat(" [0/1"+strings.Repeat(" #0/2", 9)+"]", 1000) + "] _]"
	}
	nest := func(n int) string { return strings.Repeat("[1/2 _ ", n) + "_" + strings.Repeat("]", n) }
	for i, rows := range []string{
		diagonal(190), spread(30), spread(400), inner(2000), inner(5000), many(90, "|", func(i int) string { return nest(100 - i) }), nest(4900), nest(4900) + "|" + nest(4900), many(49000, "|", func(i int) string { return "[0/2 _ " + strconv.Itoa(i) + "]" }),
		many(90000, "|", func(int) string { return "_" }), many(90000, "|", func(int) string { return "#0/1" }), many(90000, "|", func(int) string { return "7" }), many(90000, "|", strconv.Itoa), many(60000, "|", func(i int) string { return "{" + []string{"e", "d"}[i%2] + " _}" }),
		many(45000, "|", func(i int) string { return []string{"[0/2 7]", "#1/2", "_", "8"}[i%4] }), many(30000, "|", func(i int) string { return "[" + strconv.Itoa(i%7) + "/9" + wild(i%5) + "]" }),
		many(45000, "|", func(i int) string { return "[0/1 " + []string{"1 _", "_ 1"}[i%2] + "]" }), many(190, "|", func(i int) string { return "[0/1" + wild(1023) + " " + strconv.Itoa(i) + "]" }),
	} {
		c := caseOf(rowsOf(rows)...)
		if core.Check(c) != api.OK {
			t.Errorf("%d may not be", i)
		}
		s, list, e := match.Switches(c)
		if told, e2 := match.Warnings(c); e != api.ErrCore && (e2 != e || !reflect.DeepEqual(told, list)) {
			t.Errorf("%d: %v and %v", i, e, e2)
		}
		if e == api.OK && core.Check(s) != api.OK {
			t.Errorf("%d: may not be", i)
		}
	}
}

// R1: cases that stand in one another as deep as may be: in what is looked at, in a row, and where none fits.
func TestDeepCases(t *testing.T) {
	t.Parallel()
	for _, text := range []string{
		"(case $a (| 1 2) 3)", "(case $a (| x x) 3)", "(case $a (| [0/1 x] x) 3)", "(case x (| 1 $a) 3)", "(case x (| [1/2 x] $a) 3)", "(case x (| [0/1 x] $a) 3)", "(case [0 x x] (| [0/1 x _] $a) 3)", "(case x (| 1 2) (| {x 4} 1) $a)", "(case x (| [1/2 1 2] 5) $a)",
	} {
		inner := name("x")
		nested := func(n int) api.Core {
			c := inner
			for range n {
				c = termWith(t, text, map[string]api.Core{"a": c})
			}
			return fn("x", c)
		}
		for _, n := range []int{1000, 4000, 9000} {
			c := nested(n)
			if core.Check(c) != api.OK {
				t.Fatalf("%s: %d in one another may not be", text, n)
			}
			s, list, e := match.Switches(c)
			told, e2 := match.Warnings(c)
			if e == api.OK && (core.Check(s) != api.OK || !reflect.DeepEqual(list, told)) || n == 1000 && e != api.OK || e2 != api.OK && e2 != api.ErrLong {
				t.Errorf("%s: %d in one another: %v, %v", text, n, e, e2)
			}
		}
	}
}

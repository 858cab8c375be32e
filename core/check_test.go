package core_test

import (
	"reflect"
	"slices"
	"strconv"
	"strings"
	"testing"

	"smithy/api"
	"smithy/core"
)

type (
	kids   = []api.Core
	shapes = []api.Shape
)

func name(s string) api.Core { return api.Core{Kind: api.CoreVar, Name: s} }

func fn(param string, body api.Core) api.Core {
	return api.Core{Kind: api.CoreFn, Name: param, Kids: kids{body}}
}

// caseOf is a case of 1 with one row.
func caseOf(s api.Shape, e api.Core) api.Core {
	return api.Core{Kind: api.CoreCase, Kids: kids{whole(1), whole(2)}, Rows: []api.Row{{S: s, E: e}}}
}

// nest is a term in so many others.
func nest(many int, inner api.Core) api.Core {
	for range many {
		inner = api.Core{Kind: api.CoreRaise, Kids: kids{inner}}
	}
	return inner
}

func nestShapes(many int, inner api.Shape) api.Shape {
	for range many {
		inner = api.Shape{Kind: api.ShapeBlock, Span: 1, Kids: shapes{inner}}
	}
	return inner
}

func anyShape() api.Shape { return api.Shape{Kind: api.ShapeAny} }

// holdMay holds whether a term may be: by Check, and by Run, also where there are too many steps.
func holdMay(t *testing.T, what string, c api.Core, may bool) {
	t.Helper()
	want := api.ErrCore
	if may {
		want = api.OK
	}
	if e := core.Check(c); e != want {
		t.Errorf("%s: Check is %v, not %v", what, e, want)
	}
	out, e := core.Run(c, theWorld(), 30)
	if e != want || !may && !reflect.DeepEqual(out, api.Outcome{}) {
		t.Errorf("%s: Run is %+v, %v", what, out, e)
	}
	if !may {
		want = api.ErrCore
	} else {
		want = api.ErrArg
	}
	if out, e := core.Run(c, theWorld(), -1); e != want || !reflect.DeepEqual(out, api.Outcome{}) {
		t.Errorf("%s: Run is %+v, %v", what, out, e)
	}
}

// P7.1: as many kids as the kind says; a kind of the table; Rows only in a case.
func TestKidsMay(t *testing.T) {
	first := map[int]api.Core{
		api.CoreVar: name("x"), api.CoreInt: {}, api.CoreSmall: {}, api.CoreReal: {}, api.CoreText: {}, api.CoreExn: {}, api.CoreFn: {Name: "y"}, api.CoreApp: {}, api.CoreLet: {Name: "y"}, api.CoreRec: {Names: []string{"f", "g"}}, api.CoreBlock: {},
		api.CoreField: {}, api.CoreIf: {}, api.CoreSwitch: {Tags: []int{3, 4}}, api.CoreRaise: {}, api.CoreHandle: {Name: "y"}, api.CorePrim: {Name: "substring"}, api.CoreCase: {},
	}
	many := map[int]int{api.CoreFn: 1, api.CoreApp: 2, api.CoreLet: 2, api.CoreRec: 3, api.CoreField: 1, api.CoreIf: 3, api.CoreSwitch: 4, api.CoreRaise: 1, api.CoreHandle: 2, api.CorePrim: 3, api.CoreCase: 2}
	for kind := -2; kind < 30; kind++ {
		c, is := first[kind]
		c.Kind = kind
		for n := range 7 {
			c.Kids = slices.Repeat(kids{fn("z", name("x"))}, n)
			outer := func() api.Core { return api.Core{Kind: api.CoreLet, Name: "x", Kids: kids{whole(0), c}} }
			what := "kind " + strconv.Itoa(kind) + " with " + strconv.Itoa(n)
			may := is && (n == many[kind] || kind == api.CoreBlock)
			holdMay(t, what, outer(), may)
			c.Rows = []api.Row{{S: anyShape(), E: name("x")}}
			holdMay(t, what+" and a row", outer(), may && kind == api.CoreCase)
			c.Rows = nil
		}
	}
	rows := slices.Repeat([]api.Row{{S: anyShape(), E: whole(1)}}, 5)
	holdMay(t, "a case with rows", api.Core{Kind: api.CoreCase, Kids: kids{whole(1), whole(2)}, Rows: rows}, true)
	holdMay(t, "a case with no row", api.Core{Kind: api.CoreCase, Kids: kids{whole(1), whole(2)}, Rows: []api.Row{}}, true)
	holdMay(t, "a row in no case", api.Core{Kind: api.CoreLet, Name: "x", Kids: kids{whole(1), whole(2)}, Rows: []api.Row{{}}}, false)
	for n, may := range map[int]bool{0: true, api.MaxArity: true, api.MaxArity + 1: false} {
		holdMay(t, "a block", api.Core{Kind: api.CoreBlock, Kids: slices.Repeat(kids{whole(1)}, n)}, may)
	}
}

// P7.1: the names of a rec, and its functions.
func TestRecMay(t *testing.T) {
	f := fn("x", whole(1))
	for _, r := range []struct {
		names []string
		kids  kids
		may   bool
	}{
		{[]string{"f"}, kids{f, whole(1)}, true},
		{[]string{"f"}, kids{f, f}, true},
		{[]string{"f", "g", "h"}, kids{f, f, f, name("h")}, true},
		{nil, kids{whole(1)}, false},
		{nil, kids{f}, false},
		{nil, nil, false},
		{[]string{""}, kids{f, whole(1)}, false},
		{[]string{"f", ""}, kids{f, f, whole(1)}, false},
		{[]string{"f", "f"}, kids{f, f, whole(1)}, false},
		{[]string{"f", "g", "f"}, kids{f, f, f, whole(1)}, false},
		{[]string{"f", "g", "g"}, kids{f, f, f, whole(1)}, false},
		{[]string{"f"}, kids{whole(1), whole(1)}, false},
		{[]string{"f", "g"}, kids{f, name("f"), whole(1)}, false},
		{[]string{"f", "g"}, kids{whole(1), f, whole(1)}, false},
		{[]string{"f", "g"}, kids{f, f}, false},
		{[]string{"f"}, kids{f, f, f}, false},
		{[]string{"f"}, kids{f}, false},
		{[]string{"f"}, kids{fn("", whole(1)), whole(1)}, false},
		{[]string{"f"}, kids{fn("f", name("f")), name("f")}, true},
		{[]string{"f", "g"}, kids{fn("x", name("g")), fn("x", name("f")), name("g")}, true},
		{[]string{"f", "g"}, kids{fn("x", name("h")), fn("x", name("f")), name("g")}, false},
	} {
		holdMay(t, "a rec of "+strings.Join(r.names, " "), api.Core{Kind: api.CoreRec, Names: r.names, Kids: r.kids}, r.may)
	}
}

// P7.1: names that are known, and where; names that are bound are not empty.
func TestNamesMay(t *testing.T) {
	for _, text := range []string{
		`(fn x x)`, `(fn x (fn y x))`, `(let x 1 x)`, `(let x 1 (let x x x))`, `(rec (f (fn x (f x))) f)`, `(handle 1 x x)`, `(case 1 (| x x) 0)`, `(let e 1 (case 1 (| {e x} x) 0))`, `(let e 1 (case 1 (| e@ {e x} [0 x e]) e))`, `(case 1 (| [0/1 x [0/1 y z@ 3]] [0 x y z]) 0)`, `(let x 1 (case x (| x x) x))`,
		`(case 1 (| x x) (| x x) 0)`, `(case 1 (| x (case 2 (| x x) x)) 0)`, `(let x 1 [0 (fn x x) x (let x 2 x) x])`,
	} {
		holdMay(t, text, term(t, text), true)
	}
	for _, text := range []string{
		`x`, `(fn x y)`, `(let x x 1)`, `[0 (let x 1 x) x]`, `[0 (fn x x) x]`, `(rec (f (fn x x)) x)`, `(handle x x 1)`, `(case x (| x 1) 0)`, `(case 1 (| x 1) x)`, `(case 1 (| x 1) (| y x) 0)`, `(case 1 (| {e _} 1) 0)`, `(case 1 (| e@ {e _} 1) 0)`, `(case 1 (| [0/1 e {e _}] 1) 0)`, `(case 1 (| {e e} 1) 0)`, `[0 (let e 1 e) (case 1 (| {e _} 1) 0)]`,
		`(case 1 (| {e _} (let e 1 e)) (let e 1 e))`, `(case (let e 1 e) (| {e _} 1) 0)`, `[0 (rec (f (fn x f)) f) f]`, `[0 (handle 1 x x) x]`, `[0 (case 1 (| x x) 0) x]`, `(if x 1 2)`, `(print x)`, `(raise x)`, `(field 1 x)`, `(switch 1 2: x 3)`, `(switch 1 2: 3 x)`, `(1 x)`, `(x 1)`,
	} {
		holdMay(t, text, term(t, text), false)
	}
	one := kids{whole(1), whole(1)}
	for i, r := range []struct {
		c   api.Core
		may bool
	}{
		{api.Core{Kind: api.CoreVar}, false}, {fn("", whole(1)), false}, {fn("x", whole(1)), true}, {fn("", name("")), false}, {api.Core{Kind: api.CoreLet, Kids: one}, false}, {api.Core{Kind: api.CoreLet, Name: "x", Kids: one}, true}, {api.Core{Kind: api.CoreHandle, Kids: one}, false}, {api.Core{Kind: api.CoreHandle, Name: "x", Kids: one}, true},
		{caseOf(api.Shape{Kind: api.ShapeAny}, whole(1)), true}, {caseOf(api.Shape{Kind: api.ShapeAny}, name("")), false}, {caseOf(api.Shape{Kind: api.ShapeExn, Kids: shapes{anyShape()}}, whole(1)), false},
		{fn("a b\x00\"", name("a b\x00\"")), true}, {fn("print", name("print")), true},
		{fn("x", caseOf(api.Shape{Kind: api.ShapeAny, Cell: "y"}, whole(1))), true}, // only an exception's shape has a cell
	} {
		holdMay(t, "names, "+strconv.Itoa(i), r.c, r.may)
	}
}

// P7.1: the names of one shape are unlike.
func TestShapeNamesMay(t *testing.T) {
	for text, may := range map[string]bool{
		`[0/1 x y]`: true, `[0/1 x x]`: false, `x@ [0/1 x]`: false, `x@ [0/1 y]`: true, `[0/1 [0/1 x] [0/1 [0/1 x]]]`: false, `[0/1 [0/1 x] [0/1 [0/1 y]]]`: true, `[0/1 x@ 1 x@ 2]`: false, `[0/1 x@ "a" #0/1 x@ #0/1]`: false, `{e x}`: true, `x@ {e x}`: false, `[0/1 e {e x}]`: true, `[0/1 {e x} {e x}]`: false, `[0/1 _ _ _]`: true,
	} {
		holdMay(t, text, term(t, `(let e 1 (case 1 (| `+text+` 1) 0))`), may)
	}
	many := api.Shape{Kind: api.ShapeBlock, Span: 1}
	for i := range api.MaxArity {
		many.Kids = append(many.Kids, api.Shape{Kind: api.ShapeAny, Name: "x" + strconv.Itoa(i)})
	}
	holdMay(t, "many names", caseOf(many, name("x1023")), true)
	many.Kids[0].Name = "x1023"
	holdMay(t, "many names, two alike", caseOf(many, name("x1023")), false)
}

// P7.1: numbers, texts and tags at their edges.
func TestNumbersMay(t *testing.T) {
	const end = 1 << 30
	ends := map[int]bool{-1 << 62: false, -1: false, 0: true, 1: true, end - 1: true, end: false, end + 1: false, 1 << 62: false, 1 << 32: false}
	for n, may := range ends {
		what := strconv.Itoa(n)
		holdMay(t, "small "+what, api.Core{Kind: api.CoreSmall, N: n}, may)
		holdMay(t, "block "+what, api.Core{Kind: api.CoreBlock, N: n, Kids: kids{whole(1)}}, may)
		holdMay(t, "tag "+what, api.Core{Kind: api.CoreSwitch, Tags: []int{7, n}, Kids: kids{whole(1), whole(1), whole(1), whole(1)}}, may)
		holdMay(t, "first tag "+what, api.Core{Kind: api.CoreSwitch, Tags: []int{n}, Kids: kids{whole(1), whole(1), whole(1)}}, may)
		for _, kind := range []int{api.ShapeSmall, api.ShapeBlock} {
			holdMay(t, "N of a shape "+what, caseOf(api.Shape{Kind: kind, N: n, Span: end}, whole(1)), may)
			holdMay(t, "Span "+what, caseOf(api.Shape{Kind: kind, Span: n}, whole(1)), may && n > 0 || n == end)
			if n < 1<<62 {
				holdMay(t, "N just below Span "+what, caseOf(api.Shape{Kind: kind, N: n, Span: n + 1}, whole(1)), may)
				holdMay(t, "N at Span "+what, caseOf(api.Shape{Kind: kind, N: n, Span: n}, whole(1)), false)
			}
		}
		holdMay(t, "N of another term "+what, api.Core{Kind: api.CoreInt, N: n}, true)
		holdMay(t, "N of another shape "+what, caseOf(api.Shape{Kind: api.ShapeAny, N: n, Span: n}, whole(1)), true)
	}
	for n, may := range map[int]bool{-1: false, 0: true, 1023: true, 1024: false, end - 1: false} {
		holdMay(t, "field "+strconv.Itoa(n), api.Core{Kind: api.CoreField, N: n, Kids: kids{whole(1)}}, may)
	}
	for n, may := range map[int]bool{-1: false, 0: true, 7: true, 8: false, 1 << 40: false} {
		holdMay(t, "exception "+strconv.Itoa(n), api.Core{Kind: api.CoreExn, N: n}, may)
	}
	for n, may := range map[int]bool{0: true, api.MaxString: true, api.MaxString + 1: false} {
		holdMay(t, "a text", text(n), may)
		holdMay(t, "a shape's text", caseOf(api.Shape{Kind: api.ShapeText, Text: strings.Repeat("t", n)}, whole(1)), may)
		holdMay(t, "a text that is none", api.Core{Kind: api.CoreInt, Text: strings.Repeat("t", n)}, true)
	}
	for _, r := range []struct {
		tags []int
		may  bool
	}{{nil, true}, {[]int{5}, true}, {[]int{5, 4, 6}, true}, {[]int{5, 5}, false}, {[]int{5, 4, 5}, false}, {[]int{0, 1, 2, 3, 2}, false}} {
		holdMay(t, "tags", api.Core{Kind: api.CoreSwitch, Tags: r.tags, Kids: slices.Repeat(kids{whole(1)}, len(r.tags)+2)}, r.may)
	}
}

// P7.1: integers stand as they should.
func TestIntegersMay(t *testing.T) {
	for _, r := range []struct {
		a   api.Int
		may bool
	}{
		{api.Int{}, true}, {api.Int{Mag: []uint32{1}}, true}, {api.Int{Neg: true, Mag: []uint32{0, 1}}, true}, {limbs(5000).Int, true},
		{api.Int{Neg: true}, false}, {api.Int{Mag: []uint32{0}}, false}, {api.Int{Mag: []uint32{1, 0}}, false}, {api.Int{Neg: true, Mag: []uint32{1, 2, 0}}, false},
	} {
		holdMay(t, "an integer", api.Core{Kind: api.CoreInt, Int: r.a}, r.may)
		holdMay(t, "a shape's integer", caseOf(api.Shape{Kind: api.ShapeInt, Int: r.a}, whole(1)), r.may)
		holdMay(t, "an integer that is none", api.Core{Kind: api.CoreReal, Int: r.a}, true)
		holdMay(t, "a shape's integer that is none", caseOf(api.Shape{Kind: api.ShapeAny, Int: r.a}, whole(1)), true)
	}
}

// P7.1: shapes of each kind, with none to three kids; kinds that are none.
func TestShapesMay(t *testing.T) {
	for kind := -2; kind < 12; kind++ {
		for n := range 4 {
			s := api.Shape{Kind: kind, Span: 1, Cell: "e", Kids: slices.Repeat(shapes{anyShape()}, n)}
			may := kind >= api.ShapeAny && kind <= api.ShapeText && n == 0 || kind == api.ShapeBlock || kind == api.ShapeExn && n == 1
			what := "shape " + strconv.Itoa(kind) + " with " + strconv.Itoa(n)
			for _, s := range []api.Shape{s, nestShapes(1, s), {Kind: api.ShapeExn, Cell: "e", Kids: shapes{s}}, {Kind: api.ShapeBlock, Span: 1, Kids: shapes{anyShape(), s, anyShape()}}} {
				holdMay(t, what, api.Core{Kind: api.CoreLet, Name: "e", Kids: kids{whole(1), caseOf(s, whole(1))}}, may)
			}
		}
	}
	for n, may := range map[int]bool{api.MaxArity: true, api.MaxArity + 1: false} {
		holdMay(t, "a shape with many kids", caseOf(api.Shape{Kind: api.ShapeBlock, Span: 1, Kids: slices.Repeat(shapes{anyShape()}, n)}, whole(1)), may)
	}
}

// P7.1: primitives that are none, and with another number of arguments.
func TestPrimitivesMay(t *testing.T) {
	arity := map[string]int{}
	for many, names := range []string{
		"neg rneg rfromint rfloor rbits itext size chr ord str ref get vector vlen bnew blen print eprint inputline readfile exit",
		"add sub mul div mod lt le radd rsub rmul rdiv rlt rle cat ssub slt sle clt cle eq set same vsub bget writefile", "substring bset"} {
		for _, name := range strings.Fields(names) {
			arity[name] = many + 1
		}
	}
	for _, none := range []string{"", "Add", "add ", "concat", "f", "if", "\x00"} {
		arity[none] = -1
	}
	for name, many := range arity {
		for n := range 6 {
			holdMay(t, name, api.Core{Kind: api.CorePrim, Name: name, Kids: slices.Repeat(kids{whole(1)}, n)}, n == many)
		}
	}
}

// P7.1: how deep terms, shapes and both are nested. What is too deep may stand anywhere.
func TestDepthMay(t *testing.T) {
	for deep, may := range map[int]bool{api.MaxTerm - 1: true, api.MaxTerm: true, api.MaxTerm + 1: false, api.MaxTerm + 5: false, 100000: false} {
		holdMay(t, "terms", nest(deep-1, whole(1)), may)
		holdMay(t, "terms in a row", caseOf(anyShape(), nest(deep-2, whole(1))), may)
		holdMay(t, "shapes", caseOf(nestShapes(deep-2, anyShape()), whole(1)), may)
		holdMay(t, "shapes of exceptions", fn("e", caseOf(nestShapes(deep-4, api.Shape{Kind: api.ShapeExn, Cell: "e", Kids: shapes{anyShape()}}), whole(1))), may)
		holdMay(t, "both", nest(deep-500, caseOf(nestShapes(498, anyShape()), whole(1))), may)
		holdMay(t, "the first kid", api.Core{Kind: api.CoreApp, Kids: kids{nest(deep-2, whole(1)), whole(1)}}, may)
		holdMay(t, "the last kid", api.Core{Kind: api.CoreApp, Kids: kids{whole(1), nest(deep-2, whole(1))}}, may)
		holdMay(t, "behind a shape", caseOf(nestShapes(api.MaxTerm-2, anyShape()), nest(deep-2, whole(1))), may)
		holdMay(t, "what fits nothing", api.Core{Kind: api.CoreCase, Kids: kids{whole(1), nest(deep-2, whole(1))}}, may)
		lets, fns, recs := name("x"), name("x"), name("f")
		for range deep - 1 {
			lets = api.Core{Kind: api.CoreLet, Name: "x", Kids: kids{whole(1), lets}}
		}
		for range deep - 1 {
			fns = fn("x", fns)
		}
		for range deep - 4 {
			recs = api.Core{Kind: api.CoreRec, Names: []string{"f"}, Kids: kids{fn("x", name("f")), recs}}
		}
		holdMay(t, "lets", lets, may)
		holdMay(t, "functions", fns, may)
		holdMay(t, "recs", api.Core{Kind: api.CoreRec, Names: []string{"f"}, Kids: kids{fn("x", name("f")), nest(1, recs)}}, may)
		holdMay(t, "recs' functions", api.Core{Kind: api.CoreRec, Names: []string{"f"}, Kids: kids{fn("x", nest(deep-3, name("f"))), name("f")}}, may)
	}
}

// wide is a term with so many nodes, in blocks of at most 1,001.
func wide(many int) api.Core {
	c := api.Core{Kind: api.CoreBlock}
	for left := many - 1; left > 0; {
		n := min(left, 1001)
		c.Kids = append(c.Kids, api.Core{Kind: api.CoreBlock, Kids: slices.Repeat(kids{whole(1)}, n-1)})
		left -= n
	}
	return c
}

// wideShapes is a case with so many nodes, nearly all of them shapes.
func wideShapes(many int) api.Core {
	c := api.Core{Kind: api.CoreCase, Kids: kids{whole(1), whole(1)}}
	for left := many - 3; left > 0; {
		n := min(left, 1002)
		c.Rows = append(c.Rows, api.Row{S: api.Shape{Kind: api.ShapeBlock, Span: 1, Kids: slices.Repeat(shapes{anyShape()}, n-2)}, E: whole(1)})
		left -= n
	}
	return c
}

// P7.1, P7.2: how many nodes there are.
func TestSizeMay(t *testing.T) {
	for _, many := range []int{api.MaxCode - 1, api.MaxCode, api.MaxCode + 1, api.MaxCode + 2, 2 * api.MaxCode} {
		for what, c := range map[string]api.Core{"terms": wide(many), "shapes": wideShapes(many)} {
			if got := core.Size(c); got != min(many, api.MaxCode+1) {
				t.Errorf("%d %s: Size is %d", many, what, got)
			}
			e := core.Check(c)
			if (e == api.OK) != (many <= api.MaxCode) {
				t.Errorf("%d %s: %v", many, what, e)
			}
			if _, again := core.Run(c, api.World{}, 5); again != e {
				t.Errorf("%d %s: %v", many, what, again)
			}
		}
	}
	many := api.Core{Kind: api.CoreRec}
	for i := range api.MaxCode/2 - 1 {
		many.Names, many.Kids = append(many.Names, "f"+strconv.Itoa(i)), append(many.Kids, fn("x", name("f0")))
	}
	many.Kids = append(many.Kids, whole(1))
	holdMay(t, "a great rec", many, true)
	many.Names[len(many.Names)-1] = "f0"
	holdMay(t, "a great rec with two names alike", many, false)
}

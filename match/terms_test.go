package match_test

import (
	"math/rand"
	"slices"
	"strconv"
	"testing"

	"smithy/api"
	"smithy/big"
	"smithy/core"
	"smithy/match"
)

// maker makes terms at random that elab would not make: names hide each other there. It knows of which sort what it makes should be, so that terms do something; now and then it
// makes something of another sort instead, so that they are stuck.
type maker struct {
	*rand.Rand
	wrong int // one of so many is of another sort; 0: none
	names int
}

// bound is a name that is known, and of which sort it is.
type bound struct{ name, sort string }

func sorts() []string {
	return []string{"int", "bool", "text", "real", "list", "pair", "data", "fn", "cell", "exn", "bytes", "vector", "unit", "label"}
}

func (m *maker) one(l ...string) string { return l[m.Intn(len(l))] }

// fresh is a name, now and then one that hides another.
func (m *maker) fresh() string {
	if m.Intn(4) == 0 {
		return m.one("x", "y", "z")
	}
	m.names++
	return "v" + strconv.Itoa(m.names)
}

func name(x string) api.Core { return api.Core{Kind: api.CoreVar, Name: x} }

func whole(n int) api.Core { return api.Core{Kind: api.CoreInt, Int: big.Of(int64(n))} }

func fn(x string, c api.Core) api.Core { return node(api.CoreFn, x, c) }

func prims(name string, l ...api.Core) api.Core {
	return api.Core{Kind: api.CorePrim, Name: name, Kids: l}
}

func tagged(tag int, l ...api.Core) api.Core {
	return api.Core{Kind: api.CoreBlock, N: tag, Kids: l}
}

func node(kind int, name string, l ...api.Core) api.Core {
	return api.Core{Kind: kind, Name: name, Kids: l}
}

func smallTerm(n int) api.Core { return api.Core{Kind: api.CoreSmall, N: n} }

// hides are the names that are known, a new one in front.
func hides(at []bound, name, sort string) []bound {
	return append([]bound{{name, sort}}, slices.DeleteFunc(slices.Clone(at), func(b bound) bool { return b.name == name })...)
}

// make makes a term of a sort, where so much is known.
func (m *maker) make(sort string, deep int, at []bound) api.Core {
	if m.wrong > 0 && m.Intn(m.wrong) == 0 {
		sort = m.one(sorts()...)
	}
	var fit []string
	for _, b := range at {
		if b.sort == sort {
			fit = append(fit, b.name)
		}
	}
	switch {
	case len(fit) > 0 && m.Intn(3) == 0:
		return name(m.one(fit...))
	case deep <= 0:
		return m.leaf(sort)
	case m.Intn(3) == 0:
		return m.control(sort, deep-1, at)
	}
	return m.made(sort, deep-1, at)
}

func (m *maker) leaf(sort string) api.Core {
	switch sort {
	case "int":
		return whole(m.Intn(9) - 2)
	case "bool":
		return smallTerm(m.Intn(2))
	case "text":
		return api.Core{Kind: api.CoreText, Text: m.one("", "a", "b", "abc", "f", "0123456789012345678901234567890123456789")}
	case "real":
		return api.Core{Kind: api.CoreReal, Bits: []uint64{0, 1 << 63, 0x3FF8000000000000, 0x7FF0000000000000, 0x7FF8000000000000, 0xC004000000000000}[m.Intn(6)]}
	case "list":
		return smallTerm(0)
	case "pair":
		return tagged(0, m.leaf("int"), m.leaf("text"))
	case "data":
		return smallTerm(m.Intn(2))
	case "fn":
		return fn(m.fresh(), m.leaf("int"))
	case "cell":
		return prims("ref", m.leaf("int"))
	case "exn":
		return tagged(0, m.leaf("label"), m.leaf("int"))
	case "bytes":
		return prims("bnew", whole(m.Intn(70)))
	case "vector":
		return prims("vector", smallTerm(0))
	case "label":
		return api.Core{Kind: api.CoreExn, N: m.Intn(8)}
	}
	return tagged(0)
}

// control makes a term that says what is worked out.
func (m *maker) control(sort string, deep int, at []bound) api.Core {
	x, inner := m.fresh(), m.one(sorts()...)
	switch m.Intn(8) {
	case 0, 1:
		return node(api.CoreLet, x, m.make(inner, deep, at), m.make(sort, deep, hides(at, x, inner)))
	case 2:
		return node(api.CoreIf, "", m.make("bool", deep, at), m.make(sort, deep, at), m.make(sort, deep, at))
	case 3:
		c := node(api.CoreSwitch, "", m.make("data", deep, at))
		for _, tag := range m.Perm(4)[:m.Intn(5)] {
			c.Tags, c.Kids = append(c.Tags, tag), append(c.Kids, m.make(sort, deep-1, at))
		}
		c.Kids = append(c.Kids, m.make(sort, deep, at))
		return c
	case 4:
		return node(api.CoreHandle, x, m.make(sort, deep, at), m.make(sort, deep, hides(at, x, "exn")))
	case 5:
		if m.Intn(3) > 0 {
			return m.rec(sort, deep, at)
		}
		return node(api.CoreRaise, "", m.make(m.one("exn", "exn", inner), deep, at))
	}
	return m.cases(sort, deep, at)
}

// rec makes functions that know each other; they may go on for ever.
func (m *maker) rec(sort string, deep int, at []bound) api.Core {
	c := api.Core{Kind: api.CoreRec}
	many := 1 + m.Intn(2)
	for range many {
		name := m.fresh()
		if !slices.Contains(c.Names, name) {
			c.Names = append(c.Names, name)
			at = hides(at, name, "fn")
		}
	}
	for range c.Names {
		x := m.fresh()
		inner := hides(at, x, "int")
		body := m.make("int", deep, inner)
		if m.Intn(2) == 0 {
			body = node(api.CoreIf, "", prims("le", name(x), whole(0)), m.make("int", deep-2, inner), m.make("int", deep, inner))
		}
		c.Kids = append(c.Kids, fn(x, body))
	}
	c.Kids = append(c.Kids, m.make(sort, deep, at))
	return c
}

// cases makes a case of something.
func (m *maker) cases(sort string, deep int, at []bound) api.Core {
	of := m.one("int", "text", "data", "pair", "exn", "list", "bool", m.one(sorts()...))
	c := node(api.CoreCase, "", m.make(of, deep, at))
	for range m.Intn(6) {
		known := map[string]string{}
		s := m.shape(of, 3, at, known)
		inner := at
		for _, name := range slices.Sorted(mapsKeys(known)) {
			inner = hides(inner, name, known[name])
		}
		c.Rows = append(c.Rows, api.Row{S: s, E: m.make(sort, deep-1, inner)})
	}
	c.Kids = append(c.Kids, m.make(sort, deep-1, at))
	return c
}

func mapsKeys(l map[string]string) func(yield func(string) bool) {
	return func(yield func(string) bool) {
		for k := range l {
			if !yield(k) {
				return
			}
		}
	}
}

// shape makes a shape of a sort; known are the names that it has.
func (m *maker) shape(sort string, deep int, at []bound, known map[string]string) api.Shape {
	if m.wrong > 0 && m.Intn(m.wrong) == 0 {
		sort = m.one(sorts()...)
	}
	s := api.Shape{Kind: api.ShapeAny}
	if x := m.fresh(); m.Intn(3) == 0 && known[x] == "" {
		s.Name, known[x] = x, sort
	}
	if m.Intn(4) == 0 {
		return s
	}
	inside := func(sorts ...string) {
		for _, sort := range sorts {
			s.Kids = append(s.Kids, m.shape(sort, deep-1, at, known))
		}
	}
	switch sort {
	case "int":
		s.Kind, s.Int = api.ShapeInt, whole(m.Intn(5)-1).Int
	case "text":
		s.Kind, s.Text = api.ShapeText, m.leaf("text").Text
	case "bool":
		s.Kind, s.N, s.Span = api.ShapeSmall, m.Intn(2), 2
	case "pair":
		s.Kind, s.Span = api.ShapeBlock, 1
		inside("int", "text")
	case "data":
		s.Kind, s.N, s.Span = api.ShapeSmall, m.Intn(2), 4
		if m.Intn(2) == 0 {
			s.Kind, s.N = api.ShapeBlock, 2+m.Intn(2)
			inside([]string{"int", "int", "text"}[s.N-2 : 2*s.N-3]...)
		}
	case "list":
		s.Kind, s.Span = api.ShapeSmall, 2
		if m.Intn(2) == 0 {
			s.Kind, s.N = api.ShapeBlock, 1
			inside("cons")
		}
	case "cons":
		s.Kind, s.Span = api.ShapeBlock, 1
		inside("int", "list")
	case "exn":
		for _, b := range at {
			if b.sort == "label" {
				s.Kind, s.Cell = api.ShapeExn, b.name
			}
		}
		if s.Kind == api.ShapeExn {
			inside("int")
		}
	}
	return s
}

// made makes a term by what its sort is made of.
func (m *maker) made(sort string, deep int, at []bound) api.Core {
	do := func(name string, sorts ...string) api.Core {
		var l []api.Core
		for _, sort := range sorts {
			l = append(l, m.make(sort, deep, at))
		}
		return prims(name, l...)
	}
	field := func(n int, sort string) api.Core {
		return api.Core{Kind: api.CoreField, N: n, Kids: []api.Core{m.make(sort, deep, at)}}
	}
	switch sort {
	case "int":
		switch m.Intn(9) {
		case 0, 1:
			return node(api.CoreApp, "", m.make("fn", deep, at), m.make("int", deep, at))
		case 2:
			return field(0, "pair")
		case 3:
			return do("get", "cell")
		case 4:
			return do(m.one("size"), "text")
		case 5:
			return do(m.one("rfloor", "rbits"), "real")
		case 6:
			return do(m.one("bget", "vsub"), m.one("bytes", "vector"), "int")
		case 7:
			return do("neg", "int")
		}
		return do(m.one("add", "sub", "mul", "div", "mod"), "int", "int")
	case "bool":
		switch m.Intn(5) {
		case 0:
			return do(m.one("slt", "sle"), "text", "text")
		case 1:
			return do(m.one("rlt", "rle"), "real", "real")
		case 2:
			return do("same", "cell", "cell")
		case 3:
			same := m.one(sorts()...)
			return do("eq", same, same)
		}
		return do(m.one("lt", "le"), "int", "int")
	case "text":
		switch m.Intn(6) {
		case 0:
			return do("itext", "int")
		case 1:
			return do("substring", "text", "int", "int")
		case 2:
			return field(1, "pair")
		case 3:
			return do(m.one("inputline", "readfile"), "text")
		case 4:
			return do("str", "bool")
		}
		return do("cat", "text", "text")
	case "real":
		if m.Intn(4) == 0 {
			return do("rfromint", "int")
		}
		return do(m.one("radd", "rsub", "rmul", "rdiv"), "real", "real")
	case "list":
		return tagged(1, tagged(0, m.make("int", deep, at), m.make("list", deep, at)))
	case "pair":
		return tagged(0, m.make("int", deep, at), m.make("text", deep, at))
	case "data":
		if m.Intn(2) == 0 {
			return tagged(2, m.make("int", deep, at))
		}
		return tagged(3, m.make("int", deep, at), m.make("text", deep, at))
	case "fn":
		x := m.fresh()
		return fn(x, m.make("int", deep, hides(at, x, "int")))
	case "cell":
		return do("ref", "int")
	case "exn":
		return tagged(0, m.make("label", deep, at), m.make("int", deep, at))
	case "bytes":
		return do("bnew", "int")
	case "vector":
		return do("vector", "list")
	case "label":
		if m.Intn(2) == 0 {
			return do("ref", "text")
		}
		return m.leaf(sort)
	}
	return m.deed(deep, at)
}

// deed makes a term that changes something.
func (m *maker) deed(deep int, at []bound) api.Core {
	do := func(name string, sorts ...string) api.Core {
		var l []api.Core
		for _, sort := range sorts {
			l = append(l, m.make(sort, deep, at))
		}
		return prims(name, l...)
	}
	switch m.Intn(12) {
	case 0:
		return do("set", "cell", "int")
	case 1:
		return do("bset", "bytes", "int", "int")
	case 2:
		return do("writefile", "text", "text")
	case 3:
		return do("eprint", "text")
	case 4:
		if m.Intn(5) == 0 {
			return do("exit", "int")
		}
	}
	return do("print", "text")
}

// term makes a term that begins with some names, and does some things.
func (m *maker) term() api.Core {
	at := []bound{{"e", "label"}, {"d", "label"}, {"c", "cell"}}
	c := m.make("unit", 6, at)
	for range m.Intn(3) {
		c = tagged(0, m.make("unit", 5, at), c)
	}
	c = node(api.CoreLet, "c", prims("ref", whole(3)), c)
	return node(api.CoreLet, "e", prims("ref", api.Core{Kind: api.CoreText, Text: "E"}), node(api.CoreLet, "d", api.Core{Kind: api.CoreExn, N: m.Intn(8)}, c))
}

// P9.1: names that hide others, and names like those that are made.
func TestHiddenNames(t *testing.T) {
	for text, want := range map[string]string{
		`(let x 1 (case x (| y (let x 2 (print (itext y)))) 0))`:                                                                               "1",
		`(let x 1 (case x (| 1 (let x 2 (print (itext x)))) 0))`:                                                                               "2",
		`(let x 1 (case [0 x 2] (| [0/1 y z] (let x 5 (print (itext (add x (mul y z)))))) 0))`:                                                 "7",
		`(let x [0 1 2] (case x (| [0/1 y z] (let x 5 (print (itext (add x (mul y z)))))) 0))`:                                                 "7",
		`(let x [0 1 2] (case x (| y@ [0/1 x z] (print (itext (add x (field 1 y))))) 0))`:                                                      "3",
		`(let x [0 1 2] (case x (| [0/1 _ x] (case x (| 2 (print (itext x))) 0)) 0))`:                                                          "2",
		`(let x [0 1 2] ((fn x (case x (| 7 (print "no")) (| y (let x 1 (print (itext y)))) 0)) (field 1 x)))`:                                 "2",
		`(let x 1 (let y [1 [0 x 3]] (case y (| [1/2 [0/1 7 _]] 0) (| [1/2 [0/1 x y]] (print (itext (sub y x)))) 0)))`:                         "2",
		`(let e (ref "a") (handle (raise [0 e 4]) x (case x (| e@ {e e2} (print (itext (add e2 (field 1 e))))) (print "no"))))`:                "8",
		`(let e (ref "a") (handle (raise [0 e 4]) x (case x (| {e 5} (print "no")) (| x@ {e e} (print (itext e))) 0)))`:                        "4",
		`(let x 1 (case x (| 2 (print "no")) (| x (case x (| x (let x 3 (print (itext x)))) 0)) 0))`:                                           "3",
		`(let in.1 [1 5] (let in.2 6 (let in.3 7 (case [0 (field 0 in.1) in.1] (| [0/1 a [1/2 b]] (print (itext (add a (add b in.2))))) 0))))`: "16",
		`(let else.1 1 (let none.1 2 (let else.2 3 (let none.2 4 (let else.3 5 (let none.3 6 (let x [0 9 9] (case x (| [0/1 1 1] 1) (| [0/1 9 8] 2) (| [0/1 _ 7] 3)
		   (print (itext (add else.1 (add none.1 (add else.2 (add none.2 (add else.3 none.3)))))))))))))))`: "21",
		`(rec (f (fn x (case x (| 0 (print "end")) (| y (let x (sub y 1) (f x))) 0))) (f 3))`: "end",
		`(rec (x (fn y (case y (| 0 "a") (| x (itext x)) 0))) (print (cat (x 0) (x 5))))`:     "a5",
	} {
		c := term(t, text)
		s, _ := switched(t, c)
		if got := told(alike(t, c, s, worlds()[0], 200, 1000)); got != want {
			t.Errorf("%s: %s, not %s\n%s", text, got, want, shown(s))
		}
	}
}

// P9.1: terms at random in which names hide each other do what their switches do, unless they are stuck.
func TestRandomTerms(t *testing.T) {
	t.Parallel()
	m := &maker{Rand: rand.New(rand.NewSource(1))}
	var ends [3]int
	cases := 0
	for range 4000 {
		c := m.term()
		s, _ := switched(t, c)
		if match.Asked(c) > 0 {
			cases++
		}
		ends[alike(t, c, s, worlds()[m.Intn(3)], 20, m.Intn(40), m.Intn(100), 2000).Status]++
	}
	t.Logf("%d with cases, %v", cases, ends)
	if cases < 3000 || ends[api.Exited] < 2500 {
		t.Errorf("%d with cases, %v", cases, ends)
	}
}

// P9.1, R1: of terms that hold together in no way there are switches, too.
func TestOddTerms(t *testing.T) {
	t.Parallel()
	m, odd := &maker{Rand: rand.New(rand.NewSource(2))}, &shaper{rand.New(rand.NewSource(3))}
	for i := range 4000 {
		m.wrong = []int{3, 10, 40}[i%3]
		c := m.term()
		switched(t, c)
		rows := odd.rows(14, func() api.Shape { return odd.odd(3) })
		for i := range rows {
			rows[i].E = name(odd.named(&rows[i].S, 0))
		}
		o := caseOf(rows...)
		if core.Check(o) == api.OK {
			switched(t, o)
		}
	}
}

// named gives a shape, and what stands in it, names, one of which it answers.
func (m *shaper) named(s *api.Shape, deep int) string {
	s.Name = "x" + strconv.Itoa(deep)
	last := s.Name
	for i := range s.Kids {
		last = m.named(&s.Kids[i], deep*3+i+1)
	}
	return last
}

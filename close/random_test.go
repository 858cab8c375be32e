package close_test

import (
	"math/rand"
	"reflect"
	"slices"
	"strconv"
	"testing"

	"smithy/api"
	"smithy/core"
	"smithy/flow"
)

// maker makes plain terms at random. It knows of which sort what it makes should be, so that terms do something; now and then it
// makes something of another sort instead, so that they are stuck.
type maker struct {
	*rand.Rand
	wrong int // one of so many is of another sort; 0: none
	names int
}

// hides are the names that are known, a new one in front.
func hides(at []known, name string, s sort) []known {
	return append([]known{{name, s}}, slices.DeleteFunc(slices.Clone(at), func(k known) bool { return k.name == name })...)
}

func (m *maker) one(l ...string) string { return l[m.Intn(len(l))] }

// fresh is a name, often one that hides another.
func (m *maker) fresh() string {
	if m.Intn(2) == 0 {
		return m.one("x", "y", "f", "g", " ")
	}
	m.names++
	return "v" + strconv.Itoa(m.names)
}

// some is a sort.
func (m *maker) some(deep int) sort {
	inner := func() sort { return m.some(deep - 1) }
	if deep > 0 {
		switch m.Intn(8) {
		case 0, 1, 2:
			return of("->", inner(), inner())
		case 3:
			return pair(inner(), inner())
		case 4:
			return of("cell", inner())
		case 5:
			return of("vector", inner())
		}
	}
	return of(m.one("int", "int", "text", "text", "bool", "data", "unit"))
}

// make makes a term of a sort, where so much is known.
func (m *maker) make(s sort, deep int, at []known) api.Core {
	if m.wrong > 0 && m.Intn(m.wrong) == 0 {
		s = m.some(1)
	}
	var fit []string
	for _, k := range at {
		if reflect.DeepEqual(k.sort, s) {
			fit = append(fit, k.name)
		}
	}
	switch {
	case len(fit) > 0 && m.Intn(5) < 2:
		return name(m.one(fit...))
	case deep <= 0:
		return m.leaf(s, at)
	case m.Intn(2) == 0:
		return m.control(s, deep-1, at)
	}
	return m.made(s, deep-1, at)
}

// leaf makes a small term.
func (m *maker) leaf(s sort, at []known) api.Core {
	switch s.name {
	case "int":
		return whole(m.Intn(7) - 2)
	case "text":
		return word(m.one("", "a", "b", "f", "cd"))
	case "bool":
		return small(m.Intn(2))
	case "data":
		return []api.Core{small(0), small(1), tagged(1, whole(1)), tagged(2, word("d"))}[m.Intn(4)]
	case "pair":
		return tagged(m.Intn(3), m.leaf(s.of[0], at), m.leaf(s.of[1], at))
	case "cell":
		return prims("ref", m.leaf(s.of[0], at))
	case "vector":
		return prims("vector", tagged(1, tagged(0, m.leaf(s.of[0], at), small(0))))
	case "->":
		x := m.fresh()
		return fn(x, m.make(s.of[1], 0, hides(at, x, s.of[0])))
	}
	return tagged(0)
}

// control makes a term that says what is worked out.
func (m *maker) control(s sort, deep int, at []known) api.Core {
	x, inner := m.fresh(), m.some(2)
	switch m.Intn(12) {
	case 0, 1:
		return node(api.CoreLet, x, m.make(inner, deep, at), m.make(s, deep, hides(at, x, inner)))
	case 2:
		return node(api.CoreIf, "", m.make(of("bool"), deep-1, at), m.make(s, deep, at), m.make(s, deep, at))
	case 3:
		c := node(api.CoreSwitch, "", m.make(of(m.one("data", "bool")), deep-1, at))
		for _, tag := range m.Perm(4)[:m.Intn(5)] {
			c.Tags, c.Kids = append(c.Tags, tag), append(c.Kids, m.make(s, deep-1, at))
		}
		c.Kids = append(c.Kids, m.make(s, deep, at))
		return c
	case 4:
		return node(api.CoreHandle, x, m.make(s, deep, at), m.make(s, deep, hides(at, x, of("raised"))))
	case 5:
		if m.Intn(2) == 0 {
			return node(api.CoreRaise, "", m.make(inner, deep, at))
		}
		return m.rec(s, deep, at)
	case 6:
		return m.rec(s, deep, at)
	case 7:
		return node(api.CoreLet, "_", prims("print", m.make(of("text"), deep-1, at)), m.make(s, deep, at))
	case 8:
		return node(api.CoreApp, "", fn(x, m.make(s, deep, hides(at, x, inner))), m.make(inner, deep, at))
	}
	return m.applied(s, deep, at)
}

// applied makes a call: of a function that is known, of as many things as it takes, or of any one.
func (m *maker) applied(s sort, deep int, at []known) api.Core {
	var fit []known
	for _, k := range at {
		for is := k.sort; is.name == "->"; is = is.of[1] {
			if reflect.DeepEqual(is.of[1], s) {
				fit = append(fit, k)
				break
			}
		}
	}
	if len(fit) == 0 || m.Intn(4) == 0 {
		from := m.some(1)
		return node(api.CoreApp, "", m.make(of("->", from, s), deep, at), m.make(from, deep, at))
	}
	k := fit[m.Intn(len(fit))]
	c := name(k.name)
	for is := k.sort; !reflect.DeepEqual(is, s); is = is.of[1] {
		c = node(api.CoreApp, "", c, m.make(is.of[0], deep-1, at))
	}
	return c
}

// rec makes functions that know each other. Most of them come to an end.
func (m *maker) rec(s sort, deep int, at []known) api.Core {
	c := api.Core{Kind: api.CoreRec}
	var sorts []sort
	inner := at
	for range 1 + m.Intn(4) {
		if x := m.fresh(); !slices.Contains(c.Names, x) {
			sorts = append(sorts, of("->", of("int"), m.some(1)))
			c.Names = append(c.Names, x)
			inner = hides(inner, x, sorts[len(sorts)-1])
		}
	}
	for i := range sorts {
		c.Kids = append(c.Kids, m.recursive(c.Names, sorts, sorts[i].of[1], deep, inner))
	}
	c.Kids = append(c.Kids, m.make(s, deep, inner))
	return c
}

// recursive makes a function of a rec that calls one of these with less, if it can.
func (m *maker) recursive(names []string, sorts []sort, to sort, deep int, at []known) api.Core {
	x, j := m.fresh(), m.Intn(len(names))
	within := hides(at, x, of("int"))
	if slices.Contains(names, x) || m.Intn(8) == 0 {
		return fn(x, m.make(to, deep, within))
	}
	calls := node(api.CoreApp, "", name(names[j]), prims("sub", name(x), whole(1)))
	quiet := slices.DeleteFunc(slices.Clone(within), func(k known) bool { return slices.Contains(names, k.name) && m.Intn(6) > 0 })
	y := m.fresh()
	return fn(x, node(api.CoreIf, "", prims("le", name(x), whole(0)), m.make(to, deep-1, quiet), node(api.CoreLet, y, calls, m.make(to, deep, hides(quiet, y, sorts[j].of[1])))))
}

// made makes a term by what its sort is made of, or by what has such a thing in it.
func (m *maker) made(s sort, deep int, at []known) api.Core {
	in := func(s sort) api.Core { return m.make(s, deep, at) }
	switch m.Intn(8) {
	case 0:
		i := m.Intn(2)
		both := []sort{m.some(1), m.some(1)}
		both[i] = s
		return api.Core{Kind: api.CoreField, N: i, Kids: []api.Core{in(pair(both[0], both[1]))}}
	case 1:
		return prims("get", in(of("cell", s)))
	case 2:
		return prims("vsub", in(of("vector", s)), whole(m.Intn(6)/5))
	}
	switch s.name {
	case "int":
		return prims(m.one("add", "sub", "mul", "div"), in(s), in(s))
	case "text":
		switch m.Intn(5) {
		case 0:
			return prims("itext", in(of("int")))
		case 1:
			return prims(m.one("inputline", "readfile"), in(s))
		}
		return prims("cat", in(s), in(s))
	case "bool":
		eq := of(m.one("int", "text", "bool"))
		return prims("eq", in(eq), in(eq))
	case "data":
		return []api.Core{tagged(1, in(of("int"))), tagged(2, in(of("text")), in(of("unit"))), tagged(3)}[m.Intn(3)]
	case "pair":
		return tagged(m.Intn(3), in(s.of[0]), in(s.of[1]))
	case "cell":
		return prims("ref", in(s.of[0]))
	case "vector":
		return prims("vector", tagged(1, tagged(0, in(s.of[0]), tagged(1, tagged(0, in(s.of[0]), small(0))))))
	case "->":
		x := m.fresh()
		return fn(x, m.make(s.of[1], deep, hides(at, x, s.of[0])))
	}
	return m.deed(deep, at)
}

// deed makes a term that changes something.
func (m *maker) deed(deep int, at []known) api.Core {
	in := func(s sort) api.Core { return m.make(s, deep, at) }
	switch m.Intn(10) {
	case 0, 1:
		s := m.some(1)
		return prims("set", in(of("cell", s)), in(s))
	case 2:
		return prims("writefile", in(of("text")), in(of("text")))
	case 3:
		return prims("eprint", in(of("text")))
	case 4:
		if m.Intn(4) == 0 {
			return prims("exit", in(of("int")))
		}
	}
	return prims("print", in(of("text")))
}

// term makes a term that does several things.
func (m *maker) term(deep int) api.Core {
	c := tagged(0, m.make(m.some(2), deep, nil))
	for range 1 + m.Intn(3) {
		c = node(api.CoreHandle, m.fresh(), c, tagged(1))
		c = tagged(0, c, m.make(of("unit"), deep, nil))
	}
	return c
}

// P11.1: the flow of plain terms at random does what they do, with whatever steps; of terms that are stuck there is flow, too.
func TestRandomTerms(t *testing.T) {
	const each = 1500
	all := &tally{ends: map[string]int{}}
	shared(t, func(t *testing.T, seed int) {
		m := &maker{Rand: rand.New(rand.NewSource(int64(seed)))}
		for i := range each {
			m.wrong = []int{0, 0, 0, 200, 30}[i%5]
			c := m.term(3 + i%4)
			if e := core.Check(c); e != api.OK {
				t.Fatalf("%s: %v", shown(c), e)
			}
			p, w := made(t, c), worlds()[i%3]
			out := alike(t, c, p, w, 40, m.Intn(80), m.Intn(200), m.Intn(500), 2000)
			if out.Status == api.Stuck && m.wrong == 0 {
				t.Fatalf("%s is stuck", shown(c))
			}
			slow := 0.0
			if i%4 == 0 {
				slow = slower(t, c, p, w)
			}
			all.add(out, slow)
		}
	})
	const many = hands * each
	t.Logf("%d held, %d printed, ends %v, up to %.2f times as many steps", all.held, all.printed, all.ends, all.slow)
	if all.ends["0"] < many/4 || all.ends["1"] < many/10 || all.ends["stuck"] < many/40 || all.ends["running"] < many/1000 || all.printed < many/3 {
		t.Error("too many terms of one kind")
	}
	if all.slow > 2 {
		t.Error("flow takes too many steps")
	}
}

// P11.1: no term of at most 60 nodes is refused, whatever it is made of.
func TestSmallTerms(t *testing.T) {
	m := &any60{rand.New(rand.NewSource(3)), 0}
	sizes := 0
	for range 8000 {
		m.left = 60
		c := m.term(nil)
		if n := core.Size(c); n > 60 || core.Check(c) != api.OK {
			t.Fatalf("%s: %d nodes, %v", shown(c), n, core.Check(c))
		}
		sizes += core.Size(c)
		p := made(t, c)
		alike(t, c, p, worlds()[0], 20, 200)
	}
	if sizes < 8000*15 {
		t.Errorf("%d nodes in all", sizes)
	}
}

// any60 makes terms of at most 60 nodes that may be, of whatever kinds.
type any60 struct {
	*rand.Rand
	left int
}

func (m *any60) term(at []string) api.Core {
	m.left--
	fresh := string(rune('a' + m.Intn(6)))
	kid := func(at []string) api.Core { return m.term(at) }
	with := append(slices.Clone(at), fresh)
	if m.left < 12 || m.Intn(12) == 0 {
		return m.leaf(at)
	}
	m.left -= 4
	defer func() { m.left += 4 }()
	switch m.Intn(11) {
	case 0, 1:
		return fn(fresh, kid(with))
	case 2, 3:
		return node(api.CoreApp, "", kid(at), kid(at))
	case 4:
		return node(api.CoreLet, fresh, kid(at), kid(with))
	case 5:
		return node(api.CoreHandle, fresh, kid(at), kid(with))
	case 6:
		c := api.Core{Kind: api.CoreRec}
		for i := range 1 + m.Intn(3) {
			c.Names = append(c.Names, string(rune('a'+i*2+m.Intn(2))))
		}
		all := append(slices.Clone(at), c.Names...)
		for range c.Names {
			m.left--
			if m.left < 12 {
				c.Kids = append(c.Kids, fn(fresh, m.leaf(append(slices.Clone(all), fresh))))
				continue
			}
			c.Kids = append(c.Kids, fn(fresh, kid(append(slices.Clone(all), fresh))))
		}
		c.Kids = append(c.Kids, kid(all))
		return c
	case 7:
		return api.Core{Kind: api.CoreField, N: m.Intn(3), Kids: []api.Core{kid(at)}}
	case 8:
		return node(api.CoreIf, "", kid(at), kid(at), kid(at))
	case 9:
		return api.Core{Kind: api.CoreSwitch, Tags: []int{m.Intn(2), 2}, Kids: []api.Core{kid(at), kid(at), m.leaf(at), kid(at)}}
	}
	return m.made(at)
}

func (m *any60) made(at []string) api.Core {
	switch m.Intn(4) {
	case 0:
		return node(api.CoreRaise, "", m.term(at))
	case 1:
		return tagged(m.Intn(3), m.term(at), m.leaf(at))
	case 2:
		return prims("print", m.leaf(at))
	}
	prims := flow.Prims()
	l := []string{}
	for name := range prims {
		l = append(l, name)
	}
	slices.Sort(l)
	c := api.Core{Kind: api.CorePrim, Name: l[m.Intn(len(l))]}
	for range prims[c.Name] {
		c.Kids = append(c.Kids, m.leaf(at))
	}
	return c
}

func (m *any60) leaf(at []string) api.Core {
	m.left--
	if len(at) > 0 && m.Intn(3) > 0 {
		return name(at[m.Intn(len(at))])
	}
	return []api.Core{whole(m.Intn(3)), small(m.Intn(3)), word("t"), real(0), {Kind: api.CoreExn, N: m.Intn(8)}, tagged(0)}[m.Intn(6)]
}

// P11.1: terms of at most 60 nodes that capture, nest and hold as much as they can.
func TestGreatSmallTerms(t *testing.T) {
	about := func(many int, c api.Core, one func(i int, c api.Core) api.Core) api.Core {
		for i := range many {
			c = one(i, c)
		}
		return c
	}
	x := func(i int) string { return "x" + strconv.Itoa(i) }
	names := func(many int) []api.Core {
		var l []api.Core
		for i := range many {
			l = append(l, name(x(i)))
		}
		return l
	}
	rec := api.Core{Kind: api.CoreRec}
	for i := range 14 {
		rec.Names = append(rec.Names, x(i))
		rec.Kids = append(rec.Kids, fn("n", tagged(0, name(x((i+1)%14)), name(x((i+5)%14)))))
	}
	rec.Kids = append(rec.Kids, node(api.CoreApp, "", name("x0"), small(0)))
	tags := api.Core{Kind: api.CoreSwitch, Kids: []api.Core{small(1<<30 - 1)}}
	for i := range 57 {
		tags.Tags, tags.Kids = append(tags.Tags, 1<<30-1-i), append(tags.Kids, word(x(i)))
	}
	tags.Kids = append(tags.Kids, limbs(100000))
	for what, c := range map[string]api.Core{
		"functions in one another":       about(29, tagged(0, names(29)...), func(i int, c api.Core) api.Core { return fn(x(i), c) }),
		"functions that are applied":     about(14, tagged(0, names(14)...), func(i int, c api.Core) api.Core { return node(api.CoreApp, "", fn(x(i), c), whole(i)) }),
		"functions that know each other": rec,
		"conditions in one another":      about(19, small(0), func(i int, c api.Core) api.Core { return node(api.CoreIf, "", c, small(1), limbs(1000)) }),
		"conditions that are last":       about(19, small(0), func(i int, c api.Core) api.Core { return node(api.CoreIf, "", small(1), c, limbs(1000)) }),
		"handlers in one another": about(19, small(0), func(i int, c api.Core) api.Core {
			return node(api.CoreHandle, "x", c, node(api.CoreRaise, "", name("x")))
		}),
		"handlers of what was raised": about(19, small(0), func(i int, c api.Core) api.Core {
			return node(api.CoreHandle, "x", node(api.CoreRaise, "", c), name("x"))
		}),
		"raises in one another": about(59, small(0), func(i int, c api.Core) api.Core { return node(api.CoreRaise, "", c) }),
		"texts":                 tagged(0, slices.Repeat([]api.Core{given()["text"]}, 59)...),
		"tags":                  tags,
		"fields": about(59, small(0), func(i int, c api.Core) api.Core {
			return api.Core{Kind: api.CoreField, N: api.MaxArity - 1, Kids: []api.Core{c}}
		}),
	} {
		if n := core.Size(c); n < 40 || n > 60 || core.Check(c) != api.OK {
			t.Errorf("%s: %d nodes, %v", what, n, core.Check(c))
		}
		alike(t, c, made(t, c), worlds()[0], 100, 1000)
	}
}

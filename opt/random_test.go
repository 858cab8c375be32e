package opt_test

import (
	"math/rand"
	"slices"
	"testing"

	"smithy/api"
)

// maker makes programs at random. It knows of which sort what it makes should be, so that programs do something; now and then it
// makes something of another sort instead, so that they are stuck.
type maker struct {
	*rand.Rand
	wrong  int // one of so many is of another sort; 0: none
	sigs   []signature
	locals int // of the function that is made
}

// signature is of which sorts a function's parameters are, and what it returns. Those of a closure are "fn" and "int", and it
// returns an "int"; it has captured an "int", a "text", and a "fn", or, if it was not patched yet, a small number.
type signature struct {
	params []string
	result string
}

// bound is a local that is set, and of which sort it should be.
type bound struct {
	local int
	sort  string
}

// next is what stands behind something, where so much is set.
type next func(a api.Atom, at []bound) api.Flow

func sorts() []string {
	return []string{"int", "bool", "text", "real", "list", "pair", "data", "fn", "cell", "exn", "bytes", "vector", "unit", "label"}
}

func (m *maker) one(l ...string) string { return l[m.Intn(len(l))] }

// fresh is a local to be set: a new one, or one that is set already, of the same sort if there is one.
func (m *maker) fresh(sort string, at []bound) int {
	if len(at) > 0 && m.Intn(4) == 0 {
		for range 5 {
			if b := at[m.Intn(len(at))]; b.sort == sort {
				return b.local
			}
		}
		if m.Intn(10) == 0 {
			return at[m.Intn(len(at))].local
		}
	}
	m.locals++
	return m.locals - 1
}

func plus(at []bound, local int, sort string) []bound {
	return append([]bound{{local, sort}}, slices.DeleteFunc(slices.Clone(at), func(b bound) bool { return b.local == local })...)
}

// program makes a program.
func (m *maker) program() api.Program {
	m.sigs = []signature{{nil, "unit"}}
	for range 1 + m.Intn(2) {
		m.sigs = append(m.sigs, signature{[]string{"fn", "int"}, "int"})
	}
	for range 1 + m.Intn(3) {
		s := signature{result: m.one("int", "text", "unit", m.one(sorts()...))}
		for range m.Intn(4) {
			s.params = append(s.params, m.one("int", "fn", m.one(sorts()...)))
		}
		m.sigs = append(m.sigs, s)
	}
	var p api.Program
	for i, s := range m.sigs {
		var at []bound
		for v, sort := range s.params {
			at = plus(at, v, sort)
		}
		m.locals = len(s.params)
		deep := 4
		if i == 0 {
			deep = 7
		}
		body := m.body(s.result, deep, at)
		p.Funs = append(p.Funs, api.Func{Params: len(s.params), Locals: m.locals, Body: body})
	}
	return p
}

// body makes a body that returns something of a sort.
func (m *maker) body(sort string, deep int, at []bound) api.Flow {
	if deep <= 0 {
		return m.value(sort, deep, at, func(a api.Atom, _ []bound) api.Flow { return ret(a) })
	}
	deep--
	switch m.Intn(12) {
	case 0:
		return m.value("bool", deep, at, func(a api.Atom, at []bound) api.Flow {
			return api.Flow{Kind: api.FlowIf, A: a, Kids: kids{m.body(sort, deep, at), m.body(sort, deep, at)}}
		})
	case 1:
		return m.value("data", deep, at, func(a api.Atom, at []bound) api.Flow {
			f := api.Flow{Kind: api.FlowSwitch, A: a}
			for _, tag := range m.Perm(4)[:m.Intn(4)] {
				f.Tags, f.Kids = append(f.Tags, tag), append(f.Kids, m.body(sort, deep-1, at))
			}
			f.Kids = append(f.Kids, m.body(sort, deep-1, at))
			return f
		})
	case 2, 3, 4:
		return m.try(sort, deep, at)
	case 5, 6:
		return m.instead(sort, deep, at)
	case 7:
		if m.Intn(2) == 0 {
			return m.value(m.one("exn", "exn", m.one(sorts()...)), deep, at, func(a api.Atom, _ []bound) api.Flow { return api.Flow{Kind: api.FlowRaise, A: a} })
		}
	}
	return m.made(m.one("unit", "unit", m.one(sorts()...)), deep, at, func(_ api.Atom, at []bound) api.Flow { return m.body(sort, deep, at) })
}

func (m *maker) try(sort string, deep int, at []bound) api.Flow {
	inner := m.one("int", "text", m.one(sorts()...))
	f := api.Flow{Kind: api.FlowTry, V: m.fresh("exn", at), W: m.fresh(inner, at)}
	f.Kids = kids{m.body(inner, deep-1, at), m.body(inner, deep-2, plus(at, f.V, "exn")), m.body(sort, deep, plus(at, f.W, inner))}
	return f
}

// instead makes a function go on in this one's place.
func (m *maker) instead(sort string, deep int, at []bound) api.Flow {
	if sort == "int" && m.Intn(2) == 0 {
		return m.values([]string{"fn", "int"}, deep, at, func(l atoms, _ []bound) api.Flow {
			return api.Flow{Kind: api.FlowGo, A: l[0], Args: l[1:]}
		})
	}
	f := m.returns(sort)
	if f < 0 {
		return m.body(sort, deep, at)
	}
	return m.values(m.sigs[f].params, deep, at, func(l atoms, _ []bound) api.Flow { return tail(f, l) })
}

// returns is a function that returns something of a sort; below 0, if there is none.
func (m *maker) returns(sort string) int {
	var fit []int
	for f, s := range m.sigs {
		if s.result == sort && (f > 0 || m.Intn(5) == 0) {
			fit = append(fit, f)
		}
	}
	if len(fit) == 0 {
		return -1
	}
	return fit[m.Intn(len(fit))]
}

// values are several, one behind the other.
func (m *maker) values(sorts []string, deep int, at []bound, next func(l atoms, at []bound) api.Flow) api.Flow {
	var more func(l atoms, at []bound) api.Flow
	more = func(l atoms, at []bound) api.Flow {
		if len(l) == len(sorts) {
			return next(l, at)
		}
		return m.value(sorts[len(l)], deep, at, func(a api.Atom, at []bound) api.Flow { return more(append(slices.Clone(l), a), at) })
	}
	return more(nil, at)
}

// value is something of a sort that is at hand, or is made.
func (m *maker) value(sort string, deep int, at []bound, next next) api.Flow {
	if m.wrong > 0 && m.Intn(m.wrong) == 0 {
		sort = m.one(sorts()...)
	}
	var fit []int
	for _, b := range at {
		if b.sort == sort {
			fit = append(fit, b.local)
		}
	}
	if len(fit) > 0 && m.Intn(3) > 0 {
		return next(local(fit[m.Intn(len(fit))]), at)
	}
	if a, is := m.constant(sort); is && (deep <= 0 || m.Intn(3) == 0) {
		return next(a, at)
	}
	return m.made(sort, deep-1, at, next)
}

// constant is an atom of a sort, if there is one.
func (m *maker) constant(sort string) (api.Atom, bool) {
	switch sort {
	case "int":
		return whole(m.Intn(9) - 2), true
	case "bool", "data":
		return small(m.Intn(2)), true
	case "list":
		return small(0), true
	case "text":
		return api.Atom{Kind: api.AtomText, Text: m.one("", "a", "b", "abc", "f", "0123456789012345678901234567890123456789")}, true
	case "real":
		return real([]uint64{0, 1 << 63, 0x3FF8000000000000, 0x7FF0000000000000, 0x7FF8000000000000, 0xC004000000000000}[m.Intn(6)]), true
	case "label":
		return api.Atom{Kind: api.AtomExn, V: m.Intn(8)}, true
	}
	return api.Atom{}, false
}

// how is a way to make something: an operation, and of which sorts its arguments are.
type how struct {
	op    api.Op
	sorts []string
}

func prim(name string, sorts ...string) how {
	return how{api.Op{Kind: api.OpPrim, Name: name}, sorts}
}

func op(kind, n int, sorts ...string) how { return how{api.Op{Kind: kind, N: n}, sorts} }

// made sets a local to something of a sort that an operation answers.
func (m *maker) made(sort string, deep int, at []bound, next next) api.Flow {
	h := m.simple(sort)
	if deep > 0 && m.Intn(3) > 0 {
		h = m.how(sort)
	}
	if f := m.returns(sort); deep > 0 && f >= 0 && m.Intn(6) == 0 {
		h = how{api.Op{Kind: api.OpCall, F: f}, m.sigs[f].params}
	}
	return m.values(h.sorts, deep-1, at, func(l atoms, at []bound) api.Flow {
		o := h.op
		o.Args = append(slices.Clone(o.Args), l...)
		v := m.fresh(sort, at)
		return let(v, o, next(local(v), plus(at, v, sort)))
	})
}

// simple is a way that takes nothing that has to be made.
func (m *maker) simple(sort string) how {
	switch sort {
	case "pair":
		return op(api.OpBlock, 0, "int", "text")
	case "cons":
		return op(api.OpBlock, 0, "int", "list")
	case "fn":
		closure := how{op: api.Op{Kind: api.OpClosure, F: 1}}
		n, _ := m.constant("int")
		s, _ := m.constant("text")
		closure.op.Args = atoms{n, s, small(0)}
		return closure
	case "cell":
		return prim("ref", "int")
	case "exn":
		return op(api.OpBlock, 0, "label", "int")
	case "bytes":
		n := prim("bnew")
		n.op.Args = atoms{whole(m.Intn(70))}
		return n
	case "vector":
		return prim("vector", "list")
	case "unit":
		return m.deed()
	}
	a, _ := m.constant(sort)
	return how{op: api.Op{Kind: api.OpAtom, Args: atoms{a}}}
}

// how is a way to make something of a sort.
func (m *maker) how(sort string) how {
	var all []how
	switch sort {
	case "int":
		apply := op(api.OpApply, 0, "fn", "int")
		all = []how{prim(m.one("add", "sub", "mul"), "int", "int"), prim(m.one("div", "mod"), "int", "int"), apply, apply, op(api.OpField, 0, "pair"), prim("get", "cell"), prim("size", "text"), prim(m.one("rfloor", "rbits"), "real"), prim("bget", "bytes", "int"), prim("vsub", "vector", "int"), prim("vlen", "vector"), prim("blen", "bytes"), prim("neg", "int"), op(api.OpCapture, 0, "fn"), prim("ord", "bool")}
	case "bool":
		same := m.one(sorts()...)
		all = []how{prim(m.one("lt", "le"), "int", "int"), prim(m.one("slt", "sle"), "text", "text"), prim(m.one("rlt", "rle"), "real", "real"), prim("same", "cell", "cell"), prim("eq", same, same), prim(m.one("clt", "cle"), "bool", "bool"), prim("ssub", "text", "int"), prim("chr", "int")}
	case "text":
		all = []how{prim("itext", "int"), prim("substring", "text", "int", "int"), op(api.OpField, 1, "pair"), prim(m.one("inputline", "readfile"), "text"), prim("str", "bool"), prim("cat", "text", "text"), op(api.OpCapture, 1, "fn"), prim("get", "label")}
	case "real":
		all = []how{prim("rfromint", "int"), prim("rneg", "real"), prim(m.one("radd", "rsub", "rmul", "rdiv"), "real", "real")}
	case "list":
		all = []how{op(api.OpBlock, 1, "cons")}
	case "data":
		all = []how{op(api.OpBlock, 2, "int"), op(api.OpBlock, 3, "int", "text")}
	case "fn":
		closure := how{api.Op{Kind: api.OpClosure, F: 1}, []string{"int", "text", "fn"}}
		if len(m.sigs) > 2 && m.sigs[2].result == "int" && len(m.sigs[2].params) == 2 {
			closure.op.F = 1 + m.Intn(2)
		}
		all = []how{closure, closure, op(api.OpCapture, 2, "fn")}
	case "label":
		all = []how{prim("ref", "text"), op(api.OpField, 0, "exn")}
	default:
		return m.simple(sort)
	}
	return all[m.Intn(len(all))]
}

// deed is a way to change something.
func (m *maker) deed() how {
	print := prim("print", "text")
	all := []how{print, print, print, prim("eprint", "text"), prim("set", "cell", "int"), prim("bset", "bytes", "int", "int"), prim("writefile", "text", "text"), op(api.OpPatch, 0, "fn", "int"), op(api.OpPatch, 1, "fn", "text"), op(api.OpPatch, 2, "fn", "fn"), op(api.OpBlock, 0)}
	if m.Intn(30) == 0 {
		return prim("exit", "int")
	}
	return all[m.Intn(len(all))]
}

// P12.1, P12.2: what is made of raw programs at random does what they do; so does what is made of that. Some of them are stuck.
func TestRandom(t *testing.T) {
	t.Parallel()
	const each = 700
	all := &tally{ends: map[string]int{}}
	shared(t, func(t *testing.T, seed int) {
		m := &maker{Rand: rand.New(rand.NewSource(int64(seed)))}
		for i := range each {
			m.wrong = []int{0, 400, 60}[i%3]
			p := m.program()
			q := made(t, p)
			w, some := worlds()[m.Intn(3)], []int{40, m.Intn(100), m.Intn(300), 1000}
			all.add(alike(t, p, q, w, some...), p, q)
			alike(t, p, again(t, q, 1+m.Intn(3)), w, some...)
		}
	})
	const many = hands * each
	t.Logf("%d held, %d printed, ends %v, %d nodes of %d are left", all.held, all.printed, all.ends, all.after, all.before)
	if all.held != many || all.printed < many/4 || all.ends["0"] < many/10 || all.ends["1"] < many/10 || all.ends["stuck"] < many/20 || all.ends["running"] < many/50 {
		t.Error("too many programs of one kind")
	}
}

// few makes a body in which some few locals, which are texts, are set and read again and again. It is told which of them are set.
func (m *maker) few(deep int, set []int) api.Flow {
	read := func() api.Atom {
		if len(set) == 0 || m.Intn(5) == 0 {
			return word(m.one("a", "b", "c"))
		}
		return local(set[m.Intn(len(set))])
	}
	with := func(v int) []int { return append(slices.Clone(set), v) }
	v, w := m.Intn(4), m.Intn(4)
	if deep <= 0 {
		return []api.Flow{ret(read()), raise(read()), tail(2+m.Intn(2), atoms{read()}), ret(read())}[m.Intn(4)]
	}
	kid := func(set []int) api.Flow { return m.few(deep-1-m.Intn(2), set) }
	switch m.Intn(14) {
	case 11, 12:
		m.locals++
		v = m.locals
		return let(v, api.Op{Kind: api.OpField, N: m.Intn(2), Args: atoms{local(7)}}, kid(with(v)))
	case 0:
		return let(5, prims("get", local(4)), choose(local(5), kid(set), kid(set)))
	case 1, 2, 3:
		return try(kid(set), v, kid(with(v)), w, kid(with(w)))
	case 4:
		return try(kid(set), v, raise(local(v)), w, kid(with(w)))
	case 5, 6:
		return let(6, prims("print", read()), kid(set))
	case 7:
		return let(v, call(2+m.Intn(2), read()), kid(with(v)))
	case 8:
		return let(v, atomOp(read()), kid(with(v)))
	case 9:
		return let(5, api.Op{Kind: api.OpBlock, Args: atoms{read(), read()}}, let(v, api.Op{Kind: api.OpField, N: m.Intn(2), Args: atoms{local(5)}}, kid(with(v))))
	case 10:
		return let(5, api.Op{Kind: api.OpPrim, Name: "get", Args: atoms{local(4)}}, let(4, prims("ref", small(m.Intn(2))), kid(set)))
	}
	return let(v, prims("cat", read(), read()), kid(with(v)))
}

// P12.1: locals that are set again and again, in bodies at random. The last of the functions that they call has one that is set
// again behind a try; all of these locals are told in the end.
func TestSetAgain(t *testing.T) {
	t.Parallel()
	const each = 700
	functions := program(t, `ret 1`, `ret 1`, `1: let 1 = cat v0 "x"; ret v1`, `1: try { let 0 = cat v0 "y"; let 1 = size v0; let 1 = sub v1 3; let 1 = chr v1; ret v0 } catch 2 { ret "h" } then 3; let 3 = cat v3 v0; ret v3`).Funs
	all := &tally{ends: map[string]int{}}
	shared(t, func(t *testing.T, seed int) {
		m := &maker{Rand: rand.New(rand.NewSource(int64(100 + seed)))}
		for range each {
			p := api.Program{Funs: slices.Clone(functions)}
			m.locals = 7
			body := m.few(5, []int{0, 1, 2, 3})
			pair := let(7, api.Op{Kind: api.OpBlock, Args: atoms{word("l"), word("r")}}, let(7, prims("ref", local(7)), let(7, prims("get", local(7)), told4(body))))
			p.Funs[1] = api.Func{Params: m.Intn(5), Locals: m.locals + 1, Body: let(4, prims("ref", small(m.Intn(2))), pair)}
			first := atoms{word("0"), word("1"), word("2"), word("3")}[:p.Funs[1].Params]
			for v := p.Funs[1].Params; v < 4; v++ {
				p.Funs[1].Body = let(v, atomOp(word(m.one("p", "q"))), p.Funs[1].Body)
			}
			p.Funs[0] = api.Func{Locals: 2, Body: try(tail(1, first), 0, ret(local(0)), 1, let(0, prims("print", local(1)), ret(local(0))))}
			q := made(t, p)
			all.add(alike(t, p, q, worlds()[0], 40, 100, 1000), p, q)
			alike(t, p, again(t, q, 2), worlds()[0], 20, 100, 1000)
		}
	})
	t.Logf("%d held, %d printed, ends %v, %d nodes of %d are left", all.held, all.printed, all.ends, all.after, all.before)
	if all.held != hands*each || all.ends["0"] < all.held*9/10 {
		t.Error("too many are stuck, or running")
	}
}

// told4 tells the first four locals behind a body, whether that returns or raises.
func told4(body api.Flow) api.Flow {
	tell := ret(word("."))
	for v := range 4 {
		tell = let(6, prims("print", local(v)), tell)
	}
	return try(body, 5, let(6, prims("print", local(5)), ret(word("!"))), 6, let(6, prims("print", local(6)), tell))
}

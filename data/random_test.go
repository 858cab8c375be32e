package data_test

import (
	"math/rand"
	"slices"

	"smithy/api"
)

// maker makes programs at random. It knows of which sort what it makes should be, so that programs do something; now and then it
// makes something of another sort instead, so that they are stuck.
type maker struct {
	*rand.Rand
	wrong  int // one of so many is of another sort; 0: none
	sigs   []signature
	locals int // of the function that is made
}

// signature is of which sorts a function's parameters are, and what it returns. Those of a closure are "fn" and "int", and it
// returns an "int"; it has captured an "int", a "text", and a "fn", or, if it was not patched yet, a small number.
type signature struct {
	params []string
	result string
}

// bound is a local that is set, and of which sort it should be.
type bound struct {
	local int
	sort  string
}

// next is what stands behind something, where so much is set.
type next func(a api.Atom, at []bound) api.Flow

func sorts() []string {
	return []string{"int", "bool", "text", "real", "list", "pair", "data", "fn", "cell", "exn", "bytes", "vector", "unit", "label"}
}

func (m *maker) one(l ...string) string { return l[m.Intn(len(l))] }

// fresh is a local to be set: a new one, or one that is set already, of the same sort if there is one.
func (m *maker) fresh(sort string, at []bound) int {
	if len(at) > 0 && m.Intn(4) == 0 {
		for range 5 {
			if b := at[m.Intn(len(at))]; b.sort == sort {
				return b.local
			}
		}
		if m.Intn(10) == 0 {
			return at[m.Intn(len(at))].local
		}
	}
	m.locals++
	return m.locals - 1
}

func plus(at []bound, local int, sort string) []bound {
	return append([]bound{{local, sort}}, slices.DeleteFunc(slices.Clone(at), func(b bound) bool { return b.local == local })...)
}

func small(n int) api.Atom { return api.Atom{Kind: api.AtomSmall, V: n} }

// program makes a program.
func (m *maker) program() api.Program {
	m.sigs = []signature{{nil, "unit"}}
	for range 1 + m.Intn(2) {
		m.sigs = append(m.sigs, signature{[]string{"fn", "int"}, "int"})
	}
	for range 1 + m.Intn(3) {
		s := signature{result: m.one("int", "text", "unit", m.one(sorts()...))}
		for range m.Intn(4) {
			s.params = append(s.params, m.one("int", "fn", m.one(sorts()...)))
		}
		m.sigs = append(m.sigs, s)
	}
	var p api.Program
	for i, s := range m.sigs {
		var at []bound
		for v, sort := range s.params {
			at = plus(at, v, sort)
		}
		m.locals = len(s.params)
		deep := 4
		if i == 0 {
			deep = 7
		}
		body := m.body(s.result, deep, at)
		p.Funs = append(p.Funs, api.Func{Params: len(s.params), Locals: m.locals, Body: body})
	}
	return p
}

// body makes a body that returns something of a sort.
func (m *maker) body(sort string, deep int, at []bound) api.Flow {
	if deep <= 0 {
		return m.value(sort, deep, at, func(a api.Atom, _ []bound) api.Flow { return ret(a) })
	}
	deep--
	switch m.Intn(12) {
	case 0:
		return m.value("bool", deep, at, func(a api.Atom, at []bound) api.Flow {
			return api.Flow{Kind: api.FlowIf, A: a, Kids: kids{m.body(sort, deep, at), m.body(sort, deep, at)}}
		})
	case 1:
		return m.value("data", deep, at, func(a api.Atom, at []bound) api.Flow {
			f := api.Flow{Kind: api.FlowSwitch, A: a}
			for _, tag := range m.Perm(4)[:m.Intn(4)] {
				f.Tags, f.Kids = append(f.Tags, tag), append(f.Kids, m.body(sort, deep-1, at))
			}
			f.Kids = append(f.Kids, m.body(sort, deep-1, at))
			return f
		})
	case 2, 3, 4:
		return m.try(sort, deep, at)
	case 5, 6:
		return m.instead(sort, deep, at)
	case 7:
		if m.Intn(2) == 0 {
			return m.value(m.one("exn", "exn", m.one(sorts()...)), deep, at, func(a api.Atom, _ []bound) api.Flow { return api.Flow{Kind: api.FlowRaise, A: a} })
		}
	}
	return m.made(m.one("unit", "unit", m.one(sorts()...)), deep, at, func(_ api.Atom, at []bound) api.Flow { return m.body(sort, deep, at) })
}

func (m *maker) try(sort string, deep int, at []bound) api.Flow {
	inner := m.one("int", "text", m.one(sorts()...))
	f := api.Flow{Kind: api.FlowTry, V: m.fresh("exn", at), W: m.fresh(inner, at)}
	f.Kids = kids{m.body(inner, deep-1, at), m.body(inner, deep-2, plus(at, f.V, "exn")), m.body(sort, deep, plus(at, f.W, inner))}
	return f
}

// instead makes a function go on in this one's place.
func (m *maker) instead(sort string, deep int, at []bound) api.Flow {
	if sort == "int" && m.Intn(2) == 0 {
		return m.values([]string{"fn", "int"}, deep, at, func(l atoms, _ []bound) api.Flow {
			return api.Flow{Kind: api.FlowGo, A: l[0], Args: l[1:]}
		})
	}
	f := m.returns(sort)
	if f < 0 {
		return m.body(sort, deep, at)
	}
	return m.values(m.sigs[f].params, deep, at, func(l atoms, _ []bound) api.Flow { return tail(f, l) })
}

// returns is a function that returns something of a sort; below 0, if there is none.
func (m *maker) returns(sort string) int {
	var fit []int
	for f, s := range m.sigs {
		if s.result == sort && (f > 0 || m.Intn(5) == 0) {
			fit = append(fit, f)
		}
	}
	if len(fit) == 0 {
		return -1
	}
	return fit[m.Intn(len(fit))]
}

// values are several, one behind the other.
func (m *maker) values(sorts []string, deep int, at []bound, next func(l atoms, at []bound) api.Flow) api.Flow {
	var more func(l atoms, at []bound) api.Flow
	more = func(l atoms, at []bound) api.Flow {
		if len(l) == len(sorts) {
			return next(l, at)
		}
		return m.value(sorts[len(l)], deep, at, func(a api.Atom, at []bound) api.Flow { return more(append(slices.Clone(l), a), at) })
	}
	return more(nil, at)
}

// value is something of a sort that is at hand, or is made.
func (m *maker) value(sort string, deep int, at []bound, next next) api.Flow {
	if m.wrong > 0 && m.Intn(m.wrong) == 0 {
		sort = m.one(sorts()...)
	}
	var fit []int
	for _, b := range at {
		if b.sort == sort {
			fit = append(fit, b.local)
		}
	}
	if len(fit) > 0 && m.Intn(3) > 0 {
		return next(local(fit[m.Intn(len(fit))]), at)
	}
	if a, is := m.constant(sort); is && (deep <= 0 || m.Intn(3) == 0) {
		return next(a, at)
	}
	return m.made(sort, deep-1, at, next)
}

// constant is an atom of a sort, if there is one.
func (m *maker) constant(sort string) (api.Atom, bool) {
	switch sort {
	case "int":
		return whole(m.Intn(9) - 2), true
	case "bool", "data":
		return small(m.Intn(2)), true
	case "list":
		return small(0), true
	case "text":
		return api.Atom{Kind: api.AtomText, Text: m.one("", "a", "b", "abc", "f", "0123456789012345678901234567890123456789")}, true
	case "real":
		return real([]uint64{0, 1 << 63, 0x3FF8000000000000, 0x7FF0000000000000, 0x7FF8000000000000, 0xC004000000000000}[m.Intn(6)]), true
	case "label":
		return api.Atom{Kind: api.AtomExn, V: m.Intn(8)}, true
	}
	return api.Atom{}, false
}

// how is a way to make something: an operation, and of which sorts its arguments are.
type how struct {
	op    api.Op
	sorts []string
}

func prim(name string, sorts ...string) how {
	return how{api.Op{Kind: api.OpPrim, Name: name}, sorts}
}

func op(kind, n int, sorts ...string) how { return how{api.Op{Kind: kind, N: n}, sorts} }

// made sets a local to something of a sort that an operation answers.
func (m *maker) made(sort string, deep int, at []bound, next next) api.Flow {
	h := m.simple(sort)
	if deep > 0 && m.Intn(3) > 0 {
		h = m.how(sort)
	}
	if f := m.returns(sort); deep > 0 && f >= 0 && m.Intn(6) == 0 {
		h = how{api.Op{Kind: api.OpCall, F: f}, m.sigs[f].params}
	}
	return m.values(h.sorts, deep-1, at, func(l atoms, at []bound) api.Flow {
		o := h.op
		o.Args = append(slices.Clone(o.Args), l...)
		v := m.fresh(sort, at)
		return let(v, o, next(local(v), plus(at, v, sort)))
	})
}

// simple is a way that takes nothing that has to be made.
func (m *maker) simple(sort string) how {
	switch sort {
	case "pair":
		return op(api.OpBlock, 0, "int", "text")
	case "cons":
		return op(api.OpBlock, 0, "int", "list")
	case "fn":
		closure := how{op: api.Op{Kind: api.OpClosure, F: 1}}
		n, _ := m.constant("int")
		s, _ := m.constant("text")
		closure.op.Args = atoms{n, s, small(0)}
		return closure
	case "cell":
		return prim("ref", "int")
	case "exn":
		return op(api.OpBlock, 0, "label", "int")
	case "bytes":
		n := prim("bnew")
		n.op.Args = atoms{whole(m.Intn(70))}
		return n
	case "vector":
		return prim("vector", "list")
	case "unit":
		return m.deed()
	}
	a, _ := m.constant(sort)
	return how{op: api.Op{Kind: api.OpAtom, Args: atoms{a}}}
}

// how is a way to make something of a sort.
func (m *maker) how(sort string) how {
	var all []how
	switch sort {
	case "int":
		apply := op(api.OpApply, 0, "fn", "int")
		all = []how{prim(m.one("add", "sub", "mul"), "int", "int"), prim(m.one("div", "mod"), "int", "int"), apply, apply, op(api.OpField, 0, "pair"), prim("get", "cell"), prim("size", "text"), prim(m.one("rfloor", "rbits"), "real"), prim("bget", "bytes", "int"), prim("vsub", "vector", "int"), prim("vlen", "vector"), prim("blen", "bytes"), prim("neg", "int"), op(api.OpCapture, 0, "fn"), prim("ord", "bool")}
	case "bool":
		same := m.one(sorts()...)
		all = []how{prim(m.one("lt", "le"), "int", "int"), prim(m.one("slt", "sle"), "text", "text"), prim(m.one("rlt", "rle"), "real", "real"), prim("same", "cell", "cell"), prim("eq", same, same), prim(m.one("clt", "cle"), "bool", "bool"), prim("ssub", "text", "int"), prim("chr", "int")}
	case "text":
		all = []how{prim("itext", "int"), prim("substring", "text", "int", "int"), op(api.OpField, 1, "pair"), prim(m.one("inputline", "readfile"), "text"), prim("str", "bool"), prim("cat", "text", "text"), op(api.OpCapture, 1, "fn"), prim("get", "label")}
	case "real":
		all = []how{prim("rfromint", "int"), prim("rneg", "real"), prim(m.one("radd", "rsub", "rmul", "rdiv"), "real", "real")}
	case "list":
		all = []how{op(api.OpBlock, 1, "cons")}
	case "data":
		all = []how{op(api.OpBlock, 2, "int"), op(api.OpBlock, 3, "int", "text")}
	case "fn":
		closure := how{api.Op{Kind: api.OpClosure, F: 1}, []string{"int", "text", "fn"}}
		if len(m.sigs) > 2 && m.sigs[2].result == "int" && len(m.sigs[2].params) == 2 {
			closure.op.F = 1 + m.Intn(2)
		}
		all = []how{closure, closure, op(api.OpCapture, 2, "fn")}
	case "label":
		all = []how{prim("ref", "text"), op(api.OpField, 0, "exn")}
	default:
		return m.simple(sort)
	}
	return all[m.Intn(len(all))]
}

// deed is a way to change something.
func (m *maker) deed() how {
	print := prim("print", "text")
	all := []how{print, print, print, prim("eprint", "text"), prim("set", "cell", "int"), prim("bset", "bytes", "int", "int"), prim("writefile", "text", "text"), op(api.OpPatch, 0, "fn", "int"), op(api.OpPatch, 1, "fn", "text"), op(api.OpPatch, 2, "fn", "fn"), op(api.OpBlock, 0)}
	if m.Intn(30) == 0 {
		return prim("exit", "int")
	}
	return all[m.Intn(len(all))]
}

// countKinds counts nodes and operations by their kinds.
func countKinds(f *api.Flow, kinds map[[2]int]int) {
	kinds[[2]int{0, f.Kind}]++
	if f.Kind == api.FlowLet {
		kinds[[2]int{1, f.Op.Kind}]++
	}
	for i := range f.Kids {
		countKinds(&f.Kids[i], kinds)
	}
}

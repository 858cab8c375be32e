package basisrt

import (
	"encoding/binary"
	"math"

	"smithy/api"
	"smithy/big"
)

// model says what primitives do by the words of chapter 10, with values of a bench.
type model struct {
	*bench
	a []api.Ref
}

func (m model) text(i int) string { return m.things[m.a[i].N].Bytes }

func (m model) real(i int) float64 {
	return math.Float64frombits(binary.LittleEndian.Uint64([]byte(m.text(i))))
}

// new is a thing that is made.
func (m model) new(t api.Thing) api.Ref {
	m.things = append(m.things, t)
	return api.Ref{Kind: api.RefThing, N: int64(len(m.things) - 1)}
}

func (m model) newText(s string) api.Ref { return m.new(api.Thing{Kind: api.HeapText, Bytes: s}) }

func (m model) newReal(x float64) api.Ref {
	bits := math.Float64bits(x)
	if math.IsNaN(x) {
		bits = 0x7ff8000000000000
	}
	return m.newBits(bits)
}

func (m model) newBits(x uint64) api.Ref {
	t, _ := leaf(real(x))
	return m.new(t)
}

func small(n int64) api.Ref { return api.Ref{Kind: api.RefSmall, N: n} }

func truthOf(is bool) api.Ref {
	if is {
		return small(1)
	}
	return small(0)
}

// within is an argument, if it is an integer from 0 to many - 1.
func (m model) within(i, many int) (int, bool) {
	r := m.a[i]
	return int(r.N), r.Kind == api.RefSmall && r.N >= 0 && r.N < int64(many)
}

// byte is an integer modulo 256.
func (m model) byte(i int) byte {
	if m.a[i].Kind == api.RefSmall {
		return byte(m.a[i].N)
	}
	t := m.things[m.a[i].N]
	if t.Tag == 1 {
		return -t.Bytes[0]
	}
	return t.Bytes[0]
}

// should is what a primitive answers, or raises.
func (b *bench) should(name string, args []api.Ref) (api.Ref, int) {
	m := model{b, args}
	for _, part := range []func(string) (api.Ref, int, bool){m.texts, m.comparisons, m.things3, m.rows, m.reals, m.outside} {
		if r, raises, is := part(name); is {
			return r, raises
		}
	}
	b.Fatal(name, "is no primitive")
	return api.Ref{}, none
}

func (m model) texts(name string) (api.Ref, int, bool) {
	switch name {
	case "cat":
		s := m.text(0) + m.text(1)
		if len(s) > 65536 {
			return api.Ref{}, api.ExnSize, true
		}
		return m.newText(s), none, true
	case "size", "blen":
		return small(int64(len(m.text(0)))), none, true
	case "ssub", "bget":
		i, is := m.within(1, len(m.text(0)))
		if !is {
			return api.Ref{}, api.ExnSubscript, true
		}
		return small(int64(m.text(0)[i])), none, true
	case "substring":
		i, isPlace := m.within(1, len(m.text(0))+1)
		if !isPlace {
			return api.Ref{}, api.ExnSubscript, true
		}
		n, isLength := m.within(2, len(m.text(0))-i+1)
		if !isLength {
			return api.Ref{}, api.ExnSubscript, true
		}
		return m.newText(m.text(0)[i : i+n]), none, true
	case "chr":
		if _, is := m.within(0, 256); !is {
			return api.Ref{}, api.ExnChr, true
		}
		return m.a[0], none, true
	case "ord":
		return m.a[0], none, true
	case "str":
		return m.newText(string([]byte{byte(m.a[0].N)})), none, true
	}
	return api.Ref{}, none, false
}

func (m model) comparisons(name string) (api.Ref, int, bool) {
	is := false
	switch name {
	case "slt":
		is = m.text(0) < m.text(1)
	case "sle":
		is = m.text(0) <= m.text(1)
	case "clt":
		is = m.a[0].N < m.a[1].N
	case "cle":
		is = m.a[0].N <= m.a[1].N
	case "rlt":
		is = m.real(0) < m.real(1)
	case "rle":
		is = m.real(0) <= m.real(1)
	case "same":
		is = m.a[0] == m.a[1]
	case "eq":
		is = m.equal(m.a[0], m.a[1])
	default:
		return api.Ref{}, none, false
	}
	return truthOf(is), none, true
}

// equal is slow where values share parts: these are looked at again and again.
func (m model) equal(x, y api.Ref) bool {
	switch {
	case x == y:
		return true
	case x.Kind == api.RefSmall || y.Kind == api.RefSmall:
		return false
	}
	t, u := m.things[x.N], m.things[y.N]
	switch {
	case t.Kind != u.Kind || t.Tag != u.Tag || len(t.Refs) != len(u.Refs) || t.Bytes != u.Bytes:
		return false
	case t.Kind == api.HeapCell || t.Kind == api.HeapBytes:
		return false
	}
	for i := range t.Refs {
		if !m.equal(t.Refs[i], u.Refs[i]) {
			return false
		}
	}
	return true
}

func (m model) things3(name string) (api.Ref, int, bool) {
	unit := api.Ref{Kind: api.RefThing, N: unitThing}
	switch name {
	case "ref":
		return m.new(api.Thing{Kind: api.HeapCell, Refs: []api.Ref{m.a[0]}}), none, true
	case "get":
		return m.things[m.a[0].N].Refs[0], none, true
	case "set":
		m.things[m.a[0].N].Refs = []api.Ref{m.a[1]}
		return unit, none, true
	case "bset":
		i, is := m.within(1, len(m.text(0)))
		if !is {
			return api.Ref{}, api.ExnSubscript, true
		}
		all := []byte(m.text(0))
		all[i] = m.byte(2)
		m.things[m.a[0].N].Bytes = string(all)
		return unit, none, true
	}
	return api.Ref{}, none, false
}

func (m model) rows(name string) (api.Ref, int, bool) {
	switch name {
	case "vector":
		t := api.Thing{Kind: api.HeapVector}
		for l := m.a[0]; l.Kind == api.RefThing; {
			pair := m.things[m.things[l.N].Refs[0].N]
			t.Refs = append(t.Refs, pair.Refs[0])
			l = pair.Refs[1]
		}
		return m.new(t), none, true
	case "vlen":
		return small(int64(len(m.things[m.a[0].N].Refs))), none, true
	case "vsub":
		refs := m.things[m.a[0].N].Refs
		i, is := m.within(1, len(refs))
		if !is {
			return api.Ref{}, api.ExnSubscript, true
		}
		return refs[i], none, true
	case "bnew":
		n, is := m.within(0, 65537)
		if !is {
			return api.Ref{}, api.ExnSize, true
		}
		return m.new(api.Thing{Kind: api.HeapBytes, Bytes: string(make([]byte, n))}), none, true
	}
	return api.Ref{}, none, false
}

func (m model) reals(name string) (api.Ref, int, bool) {
	switch name {
	case "rneg":
		return m.newBits(math.Float64bits(m.real(0)) ^ 1<<63), none, true
	case "radd":
		return m.newReal(m.real(0) + m.real(1)), none, true
	case "rsub":
		return m.newReal(m.real(0) - m.real(1)), none, true
	case "rmul":
		return m.newReal(m.real(0) * m.real(1)), none, true
	case "rdiv":
		return m.newReal(m.real(0) / m.real(1)), none, true
	}
	return api.Ref{}, none, false
}

// outside does to the mirror what chapter 10 says.
func (m model) outside(name string) (api.Ref, int, bool) {
	unit := api.Ref{Kind: api.RefThing, N: unitThing}
	switch name {
	case "print":
		m.mirror.Out(m.text(0))
		return unit, none, true
	case "eprint":
		m.mirror.Err(m.text(0))
		return unit, none, true
	case "inputline":
		s := m.mirror.Line()
		if len(s) > 65536 {
			return api.Ref{}, api.ExnSize, true
		}
		return m.newText(s), none, true
	case "readfile":
		s, is := m.mirror.ReadFile(m.text(0))
		if !is || len(s) > 65536 {
			return api.Ref{}, api.ExnIo, true
		}
		return m.newText(s), none, true
	case "writefile":
		if !m.mirror.WriteFile(m.text(0), m.text(1)) {
			return api.Ref{}, api.ExnIo, true
		}
		return unit, none, true
	}
	return api.Ref{}, none, false
}

// kindsOf are the kinds of a primitive's arguments, as package prim takes them: t a text, i an integer, c a small number, r a real,
// v any value, e a cell, V a vector, B bytes, l a list. Those that meet the world, but for exit, are held by the mirror alone.
func kindsOf() map[string]string {
	return map[string]string{
		"cat": "tt", "size": "t", "ssub": "ti", "substring": "tii", "slt": "tt", "sle": "tt", "clt": "cc", "cle": "cc", "chr": "i", "ord": "c", "str": "c",
		"eq": "vv", "ref": "v", "get": "e", "set": "ev", "same": "ee", "vector": "l", "vlen": "V", "vsub": "Vi", "bnew": "i", "blen": "B", "bget": "Bi", "bset": "Bii",
		"print": "t", "eprint": "t", "inputline": "v", "readfile": "t", "writefile": "tt", "exit": "i",
		"rneg": "r", "rlt": "rr", "rle": "rr", "radd": "rr", "rsub": "rr", "rmul": "rr", "rdiv": "rr",
	}
}

// order are the primitives, by their functions' numbers.
func order() []string {
	return []string{"cat", "size", "ssub", "substring", "slt", "sle", "clt", "cle", "chr", "ord", "str", "eq", "ref", "get", "set", "same", "vector", "vlen", "vsub",
		"bnew", "blen", "bget", "bset", "print", "eprint", "inputline", "readfile", "writefile", "exit", "rneg", "rlt", "rle", "radd", "rsub", "rmul", "rdiv"}
}

// worldly tells whether a primitive meets the world.
func worldly(name string) bool {
	switch name {
	case "print", "eprint", "inputline", "readfile", "writefile", "exit":
		return true
	}
	return false
}

// integerOf is an integer of the model.
func (b *bench) integerOf(r api.Ref) api.Int {
	if r.Kind == api.RefSmall {
		return big.Of(r.N)
	}
	return intOf(b.things[r.N])
}

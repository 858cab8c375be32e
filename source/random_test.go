package source_test

import (
	"math/rand"
	"reflect"
	"slices"
	"strconv"
	"strings"
	"testing"

	"smithy/api"
	"smithy/source"
	"smithy/syntax"
	"smithy/types"
)

// sort is a type that the maker has in mind: its name, and what it is made of.
type sort struct {
	name string
	of   []sort
}

func (s sort) String() string {
	out := s.name
	for _, x := range s.of {
		out += " (" + x.String() + ")"
	}
	return out
}

func of(name string, l ...sort) sort { return sort{name, l} }

// maker writes programs at random that have types, and that show the order in which they are done by what they print.
type maker struct {
	*rand.Rand
	vars []variable
	next int
}

type variable struct {
	name string
	sort sort
}

func (m *maker) one(l ...string) string { return l[m.Intn(len(l))] }

func (m *maker) pick(l ...func() string) string { return l[m.Intn(len(l))]() }

func (m *maker) newName() string {
	m.next++
	return m.one("x", "y", "f") + strconv.Itoa(m.next%6)
}

// scope lets what is declared within be known there alone.
func (m *maker) scope(f func() string) string {
	before := slices.Clone(m.vars)
	out := f()
	m.vars = before
	return out
}

func (m *maker) declare(name string, s sort) {
	m.vars = slices.DeleteFunc(slices.Clone(m.vars), func(v variable) bool { return v.name == name })
	m.vars = append(m.vars, variable{name, s})
}

func (m *maker) some(depth int) sort {
	inner := func() sort { return m.some(depth - 1) }
	if depth > 0 {
		switch m.Intn(9) {
		case 0, 1:
			return of("list", inner())
		case 2:
			return of("pair", inner(), inner())
		case 3:
			return of("record", inner(), inner())
		case 4:
			return of("ref", inner())
		case 5:
			return of("->", inner(), inner())
		case 6:
			return of("vector", inner())
		}
	}
	return of(m.one("int", "int", "bool", "string", "char", "real", "unit", "d", "exn", "bytes"))
}

func isEq(s sort) bool {
	switch s.name {
	case "real", "exn", "->":
		return false
	case "ref":
		return true
	}
	return !slices.ContainsFunc(s.of, func(x sort) bool { return !isEq(x) })
}

func (m *maker) someEq() sort {
	for {
		if s := m.some(2); isEq(s) {
			return s
		}
	}
}

func text(s sort) string {
	var l []string
	for _, x := range s.of {
		l = append(l, text(x))
	}
	switch s.name {
	case "pair":
		return "(" + l[0] + " * " + l[1] + ")"
	case "record":
		return "{a : " + l[0] + ", b : " + l[1] + "}"
	case "->":
		return "(" + l[0] + " -> " + l[1] + ")"
	}
	return strings.Join(append(l, s.name), " ")
}

// pat is a pattern; most of the time it fits.
func (m *maker) pat(s sort, depth int) string {
	variable := func() string {
		name := m.newName()
		if slices.ContainsFunc(m.vars, func(v variable) bool { return v.name == "!"+name }) {
			return "_" // no variable stands twice in one pattern
		}
		m.declare(name, s)
		m.declare("!"+name, of("none"))
		return name
	}
	if depth == 0 || m.Intn(3) == 0 {
		return m.pick(variable, variable, func() string { return "_" })
	}
	kid := func(i int) string { return m.pat(s.of[i], depth-1) }
	if m.Intn(10) == 0 {
		return m.pick(func() string { return "(" + m.pat(s, depth-1) + " : " + text(s) + ")" },
			func() string {
				if name := variable(); name != "_" {
					return "(" + name + " as " + m.pat(s, depth-1) + ")"
				}
				return "_"
			})
	}
	switch s.name {
	case "int":
		return m.one("0", "1", "2", "3")
	case "bool":
		return m.one("true", "false")
	case "string":
		return m.one(`"a"`, `""`, `"bc"`)
	case "char":
		return m.one(`#"a"`, `#"b"`)
	case "unit":
		return "()"
	case "exn":
		return m.pick(func() string { return m.one("Div", "Match", "Subscript", "F") }, func() string { return "(E " + m.pat(of("int"), depth-1) + ")" })
	case "d":
		return m.pick(func() string { return "A" }, func() string { return "(B " + m.pat(of("int"), depth-1) + ")" },
			func() string { return "(C (" + m.pat(of("d"), depth-1) + ", " + m.pat(of("string"), 0) + "))" })
	case "list":
		return m.pick(func() string { return m.one("nil", "[]") }, func() string { return "[" + kid(0) + "]" },
			func() string { return "(" + kid(0) + " :: " + m.pat(s, depth-1) + ")" })
	case "pair":
		return "(" + kid(0) + ", " + kid(1) + ")"
	case "record":
		return m.fields(kid(0), kid(1))
	}
	return variable()
}

// wholePat is a pattern of which the variables are known behind it.
func (m *maker) wholePat(l ...sort) string {
	var out []string
	for _, s := range l {
		out = append(out, m.pat(s, 2))
	}
	m.vars = slices.DeleteFunc(slices.Clone(m.vars), func(v variable) bool { return v.name[0] == '!' })
	return strings.Join(out, " ")
}

// fields is a record, its labels in one order or the other.
func (m *maker) fields(a, b string) string {
	return m.one("{a = "+a+", b = "+b+"}", "{b = "+b+", a = "+a+"}")
}

func (m *maker) named(s sort) (string, bool) {
	var l []string
	for _, v := range m.vars {
		if reflect.DeepEqual(v.sort, s) {
			l = append(l, v.name)
		}
	}
	if len(l) == 0 {
		return "", false
	}
	return m.one(l...), true
}

// leaf is a small expression.
func (m *maker) leaf(s sort) string {
	if name, is := m.named(s); is && m.Intn(3) > 0 {
		return name
	}
	kid := func(i int) string { return m.leaf(s.of[i]) }
	switch s.name {
	case "int":
		return m.one("0", "1", "2", "3", "~1", "7", "1000000")
	case "bool":
		return m.one("true", "false")
	case "string":
		return m.one(`"a"`, `""`, `"bc"`, `"`+strings.Repeat("z", 70)+`"`)
	case "char":
		return m.one(`#"a"`, `#"b"`, `#"\255"`)
	case "real":
		return m.one("0.0", "1.5", "~2.5", "1e300", "0.1")
	case "unit":
		return "()"
	case "exn":
		return m.one("Div", "Match", "F", "(E 1)", "(E 2)")
	case "d":
		return m.one("A", "(B 1)", `(C (A, "a"))`, "(C (B 2, \"\"))")
	case "bytes":
		return "(Bytes.new " + m.one("0", "2", "100", "~1") + ")"
	case "list":
		return m.pick(func() string { return "nil" }, func() string { return "[" + kid(0) + "]" })
	case "pair":
		return "(" + kid(0) + ", " + kid(1) + ")"
	case "record":
		return m.fields(kid(0), kid(1))
	case "ref":
		return "(ref " + kid(0) + ")"
	case "vector":
		return "(Vector.fromList [" + kid(0) + "])"
	}
	return m.scope(func() string { return "(fn " + m.wholePat(s.of[0]) + " => " + m.leaf(s.of[1]) + ")" })
}

// exp is an expression.
func (m *maker) exp(s sort, depth int) string {
	if depth <= 0 {
		return m.leaf(s)
	}
	in := func(s sort) string { return m.exp(s, depth-1-m.Intn(2)) }
	switch m.Intn(22) {
	case 0, 1, 2:
		return "(print \"" + m.one("k", "l", "m", "n") + "\"; " + in(s) + ")"
	case 3:
		return "(if " + in(of("bool")) + " then " + in(s) + " else " + in(s) + ")"
	case 4:
		from := m.some(2)
		return "(case " + in(from) + " of " + m.rules(from, s, depth-1) + ")"
	case 5:
		return "(" + in(s) + " handle " + m.rules(of("exn"), s, depth-1) + ")"
	case 6:
		return m.one("(raise "+in(of("exn"))+")", in(s), in(s))
	case 7, 8:
		return m.scope(func() string { return "let " + m.decs(1+m.Intn(2), depth-1) + " in " + in(s) + " end" })
	case 9:
		return "(!" + in(of("ref", s)) + ")"
	case 10:
		return m.one("(#1 "+in(of("pair", s, of("int")))+")", "(#b "+in(of("record", of("bool"), s))+")", "(#2 ("+in(of("int"))+", "+in(s)+"))")
	case 11:
		from := m.some(1)
		return "(" + in(of("->", from, s)) + " " + in(from) + ")"
	case 12, 13:
		if f, is := m.function(s); is {
			return "(" + f.name + " " + in(f.sort.of[0]) + ")"
		}
	case 14:
		return "(" + in(s) + " : " + text(s) + ")"
	case 15:
		return "(Vector.sub (" + in(of("vector", s)) + ", " + m.one("0", "0", "0", "1", in(of("int"))) + "))"
	}
	return m.own(s, depth, in)
}

func (m *maker) function(to sort) (variable, bool) {
	var l []variable
	for _, v := range m.vars {
		if v.sort.name == "->" && reflect.DeepEqual(v.sort.of[1], to) {
			l = append(l, v)
		}
	}
	if len(l) == 0 {
		return variable{}, false
	}
	return l[m.Intn(len(l))], true
}

// own is an expression that is of one type by itself.
func (m *maker) own(s sort, depth int, in func(sort) string) string {
	between := func(op string, s sort) string { return "(" + in(s) + " " + op + " " + in(s) + ")" }
	kid := func(i int) string { return in(s.of[i]) }
	switch s.name {
	case "int":
		return m.pick(func() string { return between(m.one("+", "-", "*", "+", "-", "div", "mod"), s) }, func() string { return "(~ " + in(s) + ")" },
			func() string { return "(size " + in(of("string")) + ")" }, func() string { return "(ord " + in(of("char")) + ")" },
			func() string { return "(Real.floor " + in(of("real")) + ")" }, func() string { return "(Real.bits " + in(of("real")) + ")" },
			func() string { return "(Vector.length " + in(of("vector", m.some(1))) + ")" }, func() string { return "(Bytes.length " + in(of("bytes")) + ")" },
			func() string { return "(Bytes.get (" + in(of("bytes")) + ", " + in(s) + "))" })
	case "bool":
		return m.pick(func() string { return between(m.one("<", "<=", ">", ">="), of(m.one("int", "real", "char", "string"))) },
			func() string { return between(m.one("=", "<>"), m.someEq()) }, func() string { return between(m.one("andalso", "orelse"), s) })
	case "string":
		return m.pick(func() string { return between("^", s) }, func() string { return "(Int.toString " + in(of("int")) + ")" }, func() string { return "(str " + in(of("char")) + ")" },
			func() string {
				return "(String.substring (" + in(s) + ", " + m.one("0", "0", "1", in(of("int"))) + ", " + m.one("0", "1", "66", in(of("int"))) + "))"
			},
			func() string { return m.one("(inputLine ())", "(readFile \"f\")", "(readFile \"g\")") })
	case "char":
		return m.pick(func() string {
			return "(String.sub (" + in(of("string")) + ", " + m.one("0", "0", in(of("int"))) + "))"
		}, func() string { return "(chr " + in(of("int")) + ")" })
	case "real":
		return m.pick(func() string { return between(m.one("+", "-", "*", "/"), s) }, func() string { return "(~ " + in(s) + ")" }, func() string { return "(Real.fromInt " + in(of("int")) + ")" })
	case "unit":
		to := m.some(1)
		return m.pick(func() string { return "(print " + in(of("string")) + ")" }, func() string { return "(" + in(of("ref", to)) + " := " + in(to) + ")" },
			func() string {
				return "(writeFile (" + m.one(`"g"`, `"f"`, in(of("string"))) + ", " + in(of("string")) + "))"
			},
			func() string { return "(while " + in(of("bool")) + " do " + in(to) + ")" },
			func() string {
				return "(Bytes.put (" + in(of("bytes")) + ", " + m.one("0", "1") + ", " + in(of("int")) + "))"
			},
			func() string { return m.one("()", "()", "(exit "+in(of("int"))+")") })
	case "exn":
		return "(E " + in(of("int")) + ")"
	case "d":
		return m.pick(func() string { return "(B " + in(of("int")) + ")" }, func() string { return "(C (" + in(s) + ", " + in(of("string")) + "))" })
	case "list":
		return m.pick(func() string { return "(" + kid(0) + " :: " + in(s) + ")" }, func() string { return "[" + kid(0) + ", " + kid(0) + "]" })
	case "pair":
		return "(" + kid(0) + ", " + kid(1) + ")"
	case "record":
		return m.fields(kid(0), kid(1))
	case "ref":
		return "(ref " + kid(0) + ")"
	case "vector":
		return "(Vector.fromList " + in(of("list", s.of[0])) + ")"
	case "->":
		return "(fn " + m.rules(s.of[0], s.of[1], depth-1) + ")"
	}
	return m.leaf(s)
}

func (m *maker) rules(from, to sort, depth int) string {
	var out []string
	for range 1 + m.Intn(3) {
		out = append(out, m.scope(func() string { return m.wholePat(from) + " => " + m.exp(to, depth-1) }))
	}
	if m.Intn(3) == 0 {
		out = append(out, "_ => "+m.exp(to, depth-1))
	}
	return strings.Join(out, " | ")
}

func (m *maker) decs(n, depth int) string {
	var out []string
	for range n {
		out = append(out, m.dec(depth))
	}
	return strings.Join(out, " ")
}

func (m *maker) dec(depth int) string {
	switch m.Intn(8) {
	case 0:
		return m.one("exception E of int", "exception F", "datatype d' = A' | B'")
	case 1, 2, 3:
		return "fun " + m.fun(depth)
	}
	s := m.some(2)
	e := m.exp(s, depth)
	return "val " + m.wholePat(s) + " = " + e
}

// fun is a function of one to three patterns, that knows itself.
func (m *maker) fun(depth int) string {
	name, to := m.newName(), m.some(1)
	var from []sort
	for range 1 + m.Intn(3) {
		from = append(from, m.some(1))
	}
	whole := to
	for _, s := range slices.Backward(from) {
		whole = of("->", s, whole)
	}
	m.declare(name, whole)
	var out []string
	for range 1 + m.Intn(3) {
		out = append(out, m.scope(func() string {
			pats := m.wholePat(from...)
			return name + " " + pats + m.one("", "", " : "+text(to)) + " = " + m.exp(to, depth)
		}))
	}
	return strings.Join(out, " | ")
}

// program has structures, too; what is in them is known by long names behind them.
func (m *maker) program() string {
	m.vars, m.next = nil, m.Intn(6)
	out := "exception E of int exception F datatype d = A | B of int | C of d * string"
	for range 2 + m.Intn(4) {
		if m.Intn(5) > 0 {
			out += " " + m.dec(1+m.Intn(4))
			continue
		}
		name := m.one("S", "T")
		before := slices.Clone(m.vars)
		out += " structure " + name + " = struct " + m.decs(1+m.Intn(3), 1+m.Intn(3)) + " end"
		inner := m.vars
		m.vars = slices.DeleteFunc(before, func(v variable) bool { return strings.HasPrefix(v.name, name+".") })
		for _, v := range inner {
			if !slices.ContainsFunc(before, func(b variable) bool { return reflect.DeepEqual(b, v) }) {
				m.vars = append(m.vars, variable{name + "." + v.name, v.sort})
			}
		}
	}
	return out
}

// P6.1 to P6.5: programs at random do what the oracle says, with however many steps.
func TestAgainstOracle(t *testing.T) {
	m := &maker{Rand: rand.New(rand.NewSource(6))}
	w := api.World{Stdin: "one\ntwo\n" + strings.Repeat("w", 200), Files: []api.File{{Name: "f", Data: strings.Repeat("data", 20)}}}
	typed, lost := 0, 0
	var ends [3]int
	codes := map[int]int{}
	for range 2500 {
		program := m.program()
		l, mishap := syntax.Parse(program)
		if mishap.Code != api.OK {
			t.Fatalf("%s\n%v", program, mishap)
		}
		l, _, e := types.Infer(l)
		if e != api.OK {
			continue
		}
		typed++
		for _, fuel := range []int{2000, 0, 1, 2, m.Intn(20), m.Intn(60), m.Intn(200), m.Intn(2000)} {
			want, isLost := oracleRun(l, w, fuel)
			if isLost {
				lost++
				continue
			}
			got, e := source.Run(l, w, fuel)
			if e != api.OK || !reflect.DeepEqual(got, want) {
				t.Fatalf("%s\n%d steps:\n got  %+v %v\n want %+v", program, fuel, got, e, want)
			}
			ends[got.Status]++
			codes[got.Code]++
		}
	}
	if typed < 2400 || lost > 100 || ends[api.Running] < 5000 || ends[api.Exited] < 5000 || codes[1] < 3000 || len(codes) < 4 || ends[api.Stuck] > 0 {
		t.Errorf("%d typed, %d lost, %v, %v", typed, lost, ends, codes)
	}
}

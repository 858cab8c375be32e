package opt_test

import (
	"math/rand"
	"reflect"
	"slices"
	"strconv"
	"strings"
	"sync"
	"testing"

	"smithy/api"
	"smithy/close"
	"smithy/elab"
	"smithy/match"
	"smithy/syntax"
	"smithy/types"
)

// sort is a type that the writer has in mind: its name, and what it is made of.
type sort struct {
	name string
	of   []sort
}

func of(name string, l ...sort) sort { return sort{name, l} }

func pair(a, b sort) sort { return of("pair", a, b) }

// writer writes programs at random that have types, and that show the order in which they are done by what they print.
type writer struct {
	*rand.Rand
	vars []known
	next int
}

type known struct {
	name string
	sort sort
}

func (m *writer) one(l ...string) string { return l[m.Intn(len(l))] }

func (m *writer) pick(l ...func() string) string { return l[m.Intn(len(l))]() }

func (m *writer) newName() string {
	m.next++
	return m.one("x", "y", "f") + strconv.Itoa(m.next%6)
}

// scope lets what is declared within be known there alone.
func (m *writer) scope(f func() string) string {
	before := slices.Clone(m.vars)
	out := f()
	m.vars = before
	return out
}

func (m *writer) declare(name string, s sort) {
	m.vars = slices.DeleteFunc(slices.Clone(m.vars), func(v known) bool { return v.name == name })
	m.vars = append(m.vars, known{name, s})
}

func (m *writer) some(depth int) sort {
	inner := func() sort { return m.some(depth - 1) }
	if depth > 0 {
		switch m.Intn(11) {
		case 0, 1:
			return of("list", inner())
		case 2:
			return pair(inner(), inner())
		case 3:
			return of("record", inner(), inner())
		case 4:
			return of("mixed", inner(), inner(), inner())
		case 5:
			return of("ref", inner())
		case 6:
			return of("->", inner(), inner())
		case 7:
			return of("vector", inner())
		case 8:
			return of("tree", inner())
		}
	}
	return of(m.one("int", "int", "bool", "string", "char", "real", "unit", "d", "exn", "bytes"))
}

func isEq(s sort) bool {
	switch s.name {
	case "real", "exn", "->":
		return false
	case "ref":
		return true
	}
	return !slices.ContainsFunc(s.of, func(x sort) bool { return !isEq(x) })
}

func (m *writer) someEq() sort {
	for {
		if s := m.some(2); isEq(s) {
			return s
		}
	}
}

// labels are those of records, in their order.
func labels(s sort) []string {
	switch s.name {
	case "record":
		return []string{"a", "b"}
	case "mixed":
		return []string{"2", "10", "x"}
	}
	return []string{"1", "2"}
}

func typeText(s sort) string {
	var l []string
	for _, x := range s.of {
		l = append(l, typeText(x))
	}
	switch s.name {
	case "pair":
		return "(" + l[0] + " * " + l[1] + ")"
	case "record", "mixed":
		for i, label := range labels(s) {
			l[i] = label + " : " + l[i]
		}
		return "{" + strings.Join(l, ", ") + "}"
	case "->":
		return "(" + l[0] + " -> " + l[1] + ")"
	}
	return strings.Join(append(l, s.name), " ")
}

// fields is a record, its parts in any order.
func (m *writer) fields(s sort, part func(i int) string) string {
	var l []string
	for _, i := range m.Perm(len(s.of)) {
		l = append(l, labels(s)[i]+" = "+part(i))
	}
	if s.name == "pair" && m.Intn(4) > 0 {
		return "(" + part(0) + ", " + part(1) + ")"
	}
	return "{" + strings.Join(l, ", ") + "}"
}

// pat is a pattern; most of the time it fits.
func (m *writer) pat(s sort, depth int) string {
	variable := func() string {
		name := m.newName()
		if slices.ContainsFunc(m.vars, func(v known) bool { return v.name == "!"+name }) {
			return "_" // no variable stands twice in one pattern
		}
		m.declare(name, s)
		m.declare("!"+name, of("none"))
		return name
	}
	if depth == 0 || m.Intn(3) == 0 {
		return m.pick(variable, variable, func() string { return "_" })
	}
	kid := func(i int) string { return m.pat(s.of[i], depth-1) }
	if m.Intn(10) == 0 {
		return m.pick(func() string { return "(" + m.pat(s, depth-1) + " : " + typeText(s) + ")" },
			func() string {
				if name := variable(); name != "_" {
					return "(" + name + " as " + m.pat(s, depth-1) + ")"
				}
				return "_"
			})
	}
	switch s.name {
	case "int":
		return m.one("0", "1", "2", "3")
	case "bool":
		return m.one("true", "false")
	case "string":
		return m.one(`"a"`, `""`, `"bc"`)
	case "char":
		return m.one(`#"a"`, `#"b"`)
	case "unit":
		return "()"
	case "exn":
		return m.pick(func() string { return m.one("Div", "Match", "Subscript", "F", "X.G") }, func() string { return "(E " + m.pat(of("int"), depth-1) + ")" },
			func() string { return "(X.H " + m.pat(pair(of("int"), of("d")), depth-1) + ")" })
	case "d":
		return m.pick(func() string { return "A" }, func() string { return "(B " + m.pat(of("int"), depth-1) + ")" },
			func() string { return "(C " + m.pat(pair(of("d"), of("string")), depth-1) + ")" })
	case "tree":
		return m.pick(func() string { return "X.Leaf" }, func() string { return "(X.Node " + m.pat(of("mixed", s, s.of[0], s), depth-1) + ")" })
	case "list":
		return m.pick(func() string { return m.one("nil", "[]") }, func() string { return "[" + kid(0) + "]" }, func() string { return "[" + kid(0) + ", " + kid(0) + "]" },
			func() string { return "(" + kid(0) + " :: " + m.pat(s, depth-1) + ")" })
	case "pair", "record", "mixed":
		parts := make([]string, len(s.of))
		for i := range parts {
			parts[i] = kid(i)
		}
		return m.fields(s, func(i int) string { return parts[i] })
	}
	return variable()
}

// wholePat is a pattern of which the variables are known behind it.
func (m *writer) wholePat(l ...sort) string {
	var out []string
	for _, s := range l {
		out = append(out, m.pat(s, m.Intn(4)))
	}
	m.vars = slices.DeleteFunc(slices.Clone(m.vars), func(v known) bool { return v.name[0] == '!' })
	return strings.Join(out, " ")
}

func (m *writer) named(s sort) (string, bool) {
	var l []string
	for _, v := range m.vars {
		if reflect.DeepEqual(v.sort, s) {
			l = append(l, v.name)
		}
	}
	if len(l) == 0 {
		return "", false
	}
	return m.one(l...), true
}

// leaf is a small expression.
func (m *writer) leaf(s sort) string {
	if name, is := m.named(s); is && m.Intn(3) > 0 {
		return name
	}
	kid := func(i int) string { return m.leaf(s.of[i]) }
	switch s.name {
	case "int":
		return m.one("0", "1", "2", "3", "~1", "7", "1000000", "123456789012345678901234567890")
	case "bool":
		return m.one("true", "false")
	case "string":
		return m.one(`"a"`, `""`, `"bc"`, `"`+strings.Repeat("z", 70)+`"`)
	case "char":
		return m.one(`#"a"`, `#"b"`, `#"\255"`)
	case "real":
		return m.one("0.0", "1.5", "~2.5", "1e300", "0.1")
	case "unit":
		return "()"
	case "exn":
		return m.one("Div", "Match", "F", "(E 1)", "(E 2)", "X.G", "(X.H (1, A))")
	case "d":
		return m.one("A", "(B 1)", `(C (A, "a"))`, "(C (B 2, \"\"))")
	case "tree":
		return m.pick(func() string { return "X.Leaf" }, func() string { return "(X.Node {2 = X.Leaf, x = X.Leaf, 10 = " + kid(0) + "})" })
	case "bytes":
		return "(Bytes.new " + m.one("0", "2", "100", "~1") + ")"
	case "list":
		return m.pick(func() string { return "nil" }, func() string { return "[" + kid(0) + "]" })
	case "pair", "record", "mixed":
		return m.fields(s, kid)
	case "ref":
		return "(ref " + kid(0) + ")"
	case "vector":
		return "(Vector.fromList [" + kid(0) + "])"
	}
	return m.functionLeaf(s.of[0], s.of[1])
}

// standing are names of functions that stand alone, with what they take and answer.
func standing(from, to sort) []string {
	var l []string
	basic := map[string]string{
		"int string": "Int.toString", "string int": "size", "char int": "ord", "int char": "chr", "char string": "str", "string unit": "print", "unit string": "inputLine", "string string": "readFile",
		"int real": "Real.fromInt", "real int": "Real.floor", "int exn": "E", "int d": "B", "int bytes": "Bytes.new", "bytes int": "Bytes.length",
	}
	if name, is := basic[from.name+" "+to.name]; is {
		l = append(l, name)
	}
	if from.name != "pair" {
		if len(from.of) > 0 && reflect.DeepEqual(from.of[0], to) {
			l = append(l, map[string]string{"ref": "!", "record": "#a", "mixed": "#2"}[from.name])
		}
		if len(to.of) == 1 && to.name == "ref" && reflect.DeepEqual(to.of[0], from) {
			l = append(l, "ref")
		}
		return slices.DeleteFunc(l, func(s string) bool { return s == "" })
	}
	a, b := from.of[0], from.of[1]
	same := reflect.DeepEqual(a, b)
	switch both := a.name + " " + b.name + " " + to.name; {
	case both == "int int int":
		l = append(l, "op +", "op -", "op *", "op div", "op mod")
	case both == "real real real":
		l = append(l, "op +", "op -", "op *", "op /")
	case both == "string string string":
		l = append(l, "op ^")
	case both == "string int char":
		l = append(l, "String.sub")
	case both == "string string unit":
		l = append(l, "writeFile")
	case both == "bytes int int":
		l = append(l, "Bytes.get")
	case both == "d string d":
		l = append(l, "C")
	case both == "int d exn":
		l = append(l, "X.H")
	case a.name == "ref" && to.name == "unit" && reflect.DeepEqual(a.of[0], b):
		l = append(l, "op :=")
	case a.name == "vector" && b.name == "int" && reflect.DeepEqual(a.of[0], to):
		l = append(l, "Vector.sub")
	case b.name == "list" && reflect.DeepEqual(b, to) && reflect.DeepEqual(b.of[0], a):
		l = append(l, "op ::")
	}
	if same && to.name == "bool" && isEq(a) {
		l = append(l, "op =", "op <>")
	}
	if same && to.name == "bool" && strings.Contains(" int real char string ", " "+a.name+" ") {
		l = append(l, "op <", "op <=", "op >", "op >=")
	}
	if reflect.DeepEqual(a, to) {
		l = append(l, "#1")
	}
	if reflect.DeepEqual(b, to) {
		l = append(l, "#2")
	}
	return l
}

// functionLeaf is a small function.
func (m *writer) functionLeaf(from, to sort) string {
	if l := standing(from, to); len(l) > 0 && m.Intn(2) == 0 {
		return "(" + m.one(l...) + " : " + typeText(of("->", from, to)) + ")"
	}
	return m.scope(func() string { return "(fn " + m.wholePat(from) + " => " + m.leaf(to) + ")" })
}

// taking is something that a function with that answer may take, such that many functions are known by name.
func (m *writer) taking(to sort) sort {
	some := m.some(1)
	list := []sort{some, pair(to, some), pair(some, to), of("record", to, some), of("ref", to), of("mixed", to, some, some)}
	switch to.name {
	case "int":
		list = append(list, of("string"), of("char"), of("real"), pair(to, to), pair(to, to), of("bytes"), pair(of("bytes"), to))
	case "string":
		list = append(list, of("int"), of("char"), of("unit"), pair(to, to))
	case "char":
		list = append(list, of("int"), pair(of("string"), of("int")))
	case "real":
		list = append(list, of("int"), pair(to, to), pair(to, to))
	case "unit":
		list = append(list, of("string"), pair(of("ref", some), some), pair(of("string"), of("string")))
	case "bool":
		eq := m.someEq()
		ordered := of(m.one("int", "real", "char", "string"))
		list = append(list, pair(eq, eq), pair(eq, eq), pair(ordered, ordered), pair(ordered, ordered))
	case "d":
		list = append(list, of("int"), pair(to, of("string")))
	case "exn":
		list = append(list, of("int"), pair(of("int"), of("d")))
	case "list":
		list = append(list, pair(to.of[0], to), pair(to.of[0], to))
	case "ref":
		list = append(list, to.of[0])
	}
	return list[m.Intn(len(list))]
}

// exp is an expression.
func (m *writer) exp(s sort, depth int) string {
	if depth <= 0 {
		return m.leaf(s)
	}
	in := func(s sort) string { return m.exp(s, depth-1-m.Intn(2)) }
	switch m.Intn(24) {
	case 0, 1, 2:
		return "(print \"" + m.one("k", "l", "m", "n") + "\"; " + in(s) + ")"
	case 3:
		return "(if " + in(of("bool")) + " then " + in(s) + " else " + in(s) + ")"
	case 4:
		from := m.some(2)
		return "(case " + in(from) + " of " + m.rules(from, s, depth-1) + ")"
	case 5:
		return "(" + in(s) + " handle " + m.rules(of("exn"), s, depth-1) + ")"
	case 6:
		return m.one("(raise "+in(of("exn"))+")", in(s), in(s))
	case 7, 8:
		return m.scope(func() string { return "let " + m.decs(1+m.Intn(2), depth-1) + " in " + in(s) + " end" })
	case 9:
		return "(!" + in(of("ref", s)) + ")"
	case 10:
		record := of(m.one("record", "mixed"), s, m.some(1), s)
		record.of = record.of[:len(labels(record))]
		last := labels(record)[len(record.of)-1]
		if record.name == "record" {
			last = "a"
		}
		return "(#" + last + " " + in(record) + ")"
	case 11, 12:
		from := m.taking(s)
		return "(" + in(of("->", from, s)) + " " + in(from) + ")"
	case 13, 14:
		if f, is := m.function(s); is {
			out := f.name
			for to := f.sort; !reflect.DeepEqual(to, s); to = to.of[1] {
				out += " " + in(to.of[0])
			}
			return "(" + out + ")"
		}
	case 15:
		return "(" + in(s) + " : " + typeText(s) + ")"
	case 16:
		return "(Vector.sub (" + in(of("vector", s)) + ", " + m.one("0", "0", "0", "1", in(of("int"))) + "))"
	case 17:
		count := m.newName() + "c" // no other name is so
		return "let val " + count + " = ref 0 in while (!" + count + " < 2) do (" + count + " := !" + count + " + 1; " + in(m.some(1)) + "); " + in(s) + " end"
	}
	return m.own(s, depth, in)
}

// function is one that is known, and that answers something of a type once it has one argument or some more.
func (m *writer) function(to sort) (known, bool) {
	var l []known
	for _, v := range m.vars {
		for is := v.sort; is.name == "->"; is = is.of[1] {
			if reflect.DeepEqual(is.of[1], to) {
				l = append(l, v)
				break
			}
		}
	}
	if len(l) == 0 {
		return known{}, false
	}
	return l[m.Intn(len(l))], true
}

// own is an expression that is of one type by itself.
func (m *writer) own(s sort, depth int, in func(sort) string) string {
	between := func(op string, s sort) string { return "(" + in(s) + " " + op + " " + in(s) + ")" }
	kid := func(i int) string { return in(s.of[i]) }
	switch s.name {
	case "int":
		return m.pick(func() string { return between(m.one("+", "-", "*", "+", "-", "div", "mod"), s) }, func() string { return "(~ " + in(s) + ")" },
			func() string { return "(size " + in(of("string")) + ")" }, func() string { return "(ord " + in(of("char")) + ")" },
			func() string { return "(Real.floor " + in(of("real")) + ")" }, func() string { return "(Real.bits " + in(of("real")) + ")" },
			func() string { return "(Vector.length " + in(of("vector", m.some(1))) + ")" }, func() string { return "(Bytes.length " + in(of("bytes")) + ")" },
			func() string { return "(Bytes.get " + in(pair(of("bytes"), s)) + ")" })
	case "bool":
		return m.pick(func() string { return between(m.one("<", "<=", ">", ">="), of(m.one("int", "real", "char", "string"))) },
			func() string { return between(m.one("=", "<>"), m.someEq()) }, func() string { return between(m.one("andalso", "orelse"), s) })
	case "string":
		return m.pick(func() string { return between("^", s) }, func() string { return "(Int.toString " + in(of("int")) + ")" }, func() string { return "(str " + in(of("char")) + ")" },
			func() string {
				return "(String.substring {1 = " + in(s) + ", 3 = " + m.one("0", "1", "66", in(of("int"))) + ", 2 = " + m.one("0", "0", "1", in(of("int"))) + "})"
			},
			func() string { return m.one("(inputLine ())", "(readFile \"f\")", "(readFile \"g\")") })
	case "char":
		return m.pick(func() string {
			return "(String.sub (" + in(of("string")) + ", " + m.one("0", "0", in(of("int"))) + "))"
		}, func() string { return "(chr " + in(of("int")) + ")" })
	case "real":
		return m.pick(func() string { return between(m.one("+", "-", "*", "/"), s) }, func() string { return "(~ " + in(s) + ")" }, func() string { return "(Real.fromInt " + in(of("int")) + ")" })
	case "unit":
		to := m.some(1)
		return m.pick(func() string { return "(print " + in(of("string")) + ")" }, func() string { return "(" + in(of("ref", to)) + " := " + in(to) + ")" },
			func() string {
				return "(writeFile (" + m.one(`"g"`, `"f"`, in(of("string"))) + ", " + in(of("string")) + "))"
			},
			func() string { return "(while " + in(of("bool")) + " do " + in(to) + ")" },
			func() string {
				return "(Bytes.put (" + in(of("bytes")) + ", " + m.one("0", "1") + ", " + in(of("int")) + "))"
			},
			func() string { return m.one("()", "()", "(exit "+in(of("int"))+")", "(exit 3)", "(exit 255)") }, func() string { return "(if " + in(of("bool")) + " then exit " + m.one("4", "5", "6") + " else ())" })
	case "exn":
		return m.one("(E "+in(of("int"))+")", "(X.H "+in(pair(of("int"), of("d")))+")")
	case "d":
		return m.pick(func() string { return "(B " + in(of("int")) + ")" }, func() string { return "(C " + in(pair(s, of("string"))) + ")" })
	case "tree":
		return "(X.Node " + in(of("mixed", s, s.of[0], s)) + ")"
	case "list":
		return m.pick(func() string { return "(" + kid(0) + " :: " + in(s) + ")" }, func() string { return "[" + kid(0) + ", " + kid(0) + "]" })
	case "pair", "record", "mixed":
		return m.fields(s, kid)
	case "ref":
		return "(ref " + kid(0) + ")"
	case "vector":
		return "(Vector.fromList " + in(of("list", s.of[0])) + ")"
	case "->":
		return "(fn " + m.rules(s.of[0], s.of[1], depth-1) + ")"
	}
	return m.leaf(s)
}

func (m *writer) rules(from, to sort, depth int) string {
	var out []string
	for range 1 + m.Intn(3) {
		out = append(out, m.scope(func() string { return m.wholePat(from) + " => " + m.exp(to, depth-1) }))
	}
	if m.Intn(3) == 0 {
		out = append(out, "_ => "+m.exp(to, depth-1))
	}
	return strings.Join(out, " | ")
}

func (m *writer) decs(n, depth int) string {
	var out []string
	for range n {
		out = append(out, m.dec(depth))
	}
	return strings.Join(out, " ")
}

func (m *writer) dec(depth int) string {
	switch m.Intn(8) {
	case 0:
		return m.one("exception E of int", "exception F", "datatype d' = A' | B'", "type t = int infix 3 ++ nonfix ++", "exception Div", "exception Match")
	case 1, 2, 3:
		return "fun " + m.funs(1+m.Intn(4)/3, depth)
	}
	s := m.some(2)
	e := m.exp(s, depth)
	return "val " + m.wholePat(s) + " = " + e
}

// funs are functions of one to three patterns, which know each other.
func (m *writer) funs(many, depth int) string {
	var names []string
	var from [][]sort
	var to []sort
	for i := range many {
		names, to = append(names, m.newName()+strings.Repeat("'", i)), append(to, m.some(1))
		from = append(from, nil)
		for range 1 + m.Intn(3) {
			from[i] = append(from[i], m.some(1))
		}
		whole := to[i]
		for _, s := range slices.Backward(from[i]) {
			whole = of("->", s, whole)
		}
		m.declare(names[i], whole)
	}
	var all []string
	for i := range many {
		var out []string
		for range 1 + m.Intn(3) {
			out = append(out, m.scope(func() string {
				pats := m.wholePat(from[i]...)
				return names[i] + " " + pats + m.one("", "", " : "+typeText(to[i])) + " = " + m.exp(to[i], depth)
			}))
		}
		all = append(all, strings.Join(out, " | "))
	}
	return strings.Join(all, " and ")
}

// ahead is what all programs begin with.
const ahead = `exception E of int exception F datatype d = A | B of int | C of d * string
structure X = struct exception G exception H of int * d datatype 'a tree = Leaf | Node of {2 : 'a tree, 10 : 'a, x : 'a tree} end type 'a tree = 'a X.tree`

// program has structures, too; what is in them is known by long names behind them.
func (m *writer) program() string {
	m.vars, m.next = nil, m.Intn(6)
	out := ahead
	for range 2 + m.Intn(4) {
		if m.Intn(5) > 0 {
			out += " " + m.dec(1+m.Intn(4))
			continue
		}
		name := m.one("S", "T")
		before := slices.Clone(m.vars)
		out += " structure " + name + " = struct " + m.decs(1+m.Intn(3), 1+m.Intn(3)) + " end"
		inner := m.vars
		m.vars = slices.DeleteFunc(before, func(v known) bool { return strings.HasPrefix(v.name, name+".") })
		for _, v := range inner {
			if !slices.ContainsFunc(before, func(b known) bool { return reflect.DeepEqual(b, v) }) {
				m.vars = append(m.vars, known{name + "." + v.name, v.sort})
			}
		}
	}
	if m.Intn(6) == 0 {
		out = "structure Wrap = struct " + out + " end"
	}
	return out
}

// tally is what came of programs at random.
type tally struct {
	sync.Mutex
	held, printed int
	ends          map[string]int
	before, after int // nodes in all
}

func (a *tally) add(out api.Outcome, p, q api.Program) {
	a.Lock()
	defer a.Unlock()
	end := "running"
	switch out.Status {
	case api.Stuck:
		end = "stuck"
	case api.Exited:
		end = strconv.Itoa(out.Code)
	}
	a.held++
	a.ends[end]++
	a.printed += min(len(out.Trace), 1)
	a.before += size(p)
	a.after += size(q)
}

// size is how many functions and nodes a program has.
func size(p api.Program) int {
	n := len(p.Funs)
	for i := range p.Funs {
		n += sizeOf(&p.Funs[i].Body)
	}
	return n
}

func sizeOf(f *api.Flow) int {
	n := 1
	for i := range f.Kids {
		n += sizeOf(&f.Kids[i])
	}
	return n
}

// programFlow is the flow of a program, if it has types.
func programFlow(t testing.TB, program string) (api.Program, bool) {
	t.Helper()
	l, mishap := syntax.Parse(program)
	if mishap.Code != api.OK {
		t.Fatalf("%s\n%v", program, mishap)
	}
	l, _, e := types.Infer(l)
	if e != api.OK {
		return api.Program{}, false
	}
	c, e := elab.Core(l)
	if e == api.OK {
		c, _, e = match.Switches(c)
	}
	if e != api.OK {
		t.Fatalf("%s\n%v", program, e)
	}
	p, e := close.Flow(c)
	if e != api.OK {
		t.Fatalf("%s\n%v", program, e)
	}
	return p, true
}

// P12.1, P12.2: what is made of programs at random that have types does what they do; so does what is made of that.
func TestRandomPrograms(t *testing.T) {
	t.Parallel()
	const each = 400
	all := &tally{ends: map[string]int{}}
	shared(t, func(t *testing.T, seed int) {
		m := &writer{Rand: rand.New(rand.NewSource(int64(seed)))}
		for i := range each {
			p, is := programFlow(t, m.program())
			if !is {
				continue
			}
			q := made(t, p)
			w, some := worlds()[i%3], []int{25, m.Intn(50), m.Intn(100), m.Intn(200), m.Intn(500), 3000}
			all.add(alike(t, p, q, w, some...), p, q)
			alike(t, p, again(t, q, 1+m.Intn(3)), w, some...)
		}
	})
	const many = hands * each
	t.Logf("%d typed, %d printed, ends %v, %d nodes of %d are left", all.held, all.printed, all.ends, all.after, all.before)
	if all.held < many*9/10 || all.ends["0"] < many/10 || all.ends["1"] < many/10 || len(all.ends) < 6 || all.printed < many/2 || all.ends["stuck"] > 0 {
		t.Error("too many programs of one kind")
	}
}

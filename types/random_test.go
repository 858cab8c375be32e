package types_test

import (
	"math/rand"
	"slices"
	"strconv"
	"strings"
	"testing"

	"smithy/api"
	"smithy/syntax"
	"smithy/types"
)

// maker writes programs at random. It has a type in mind for each thing that it writes, and seldom another one than would
// do: so that many programs have types, and many have not for some small reason. What it has in mind is a term; "?n" is a
// type of which a function knows nothing.
type maker struct {
	*rand.Rand
	env   []binding
	types int // how many types of which nothing is known there were
	next  int // how many names there were
}

func (m *maker) of(list ...string) string { return list[m.Intn(len(list))] }

// pick is one of several things that could be written.
func (m *maker) pick(list ...func() string) string { return list[m.Intn(len(list))]() }

// word is that word.
func word(s string) func() string { return func() string { return s } }

// some is a type at random.
func (m *maker) some(depth int) term {
	inner := func() term { return m.some(depth - 1) }
	if depth > 0 {
		switch m.Intn(8) {
		case 0:
			return con("list", inner())
		case 1:
			return con(m.of("ref", "d"), inner())
		case 2:
			return pairOf(inner(), inner())
		case 3:
			return fields([]string{"a", "b"}, []term{inner(), inner()})
		case 4, 5:
			return to(inner(), inner())
		}
	}
	return con(m.of("int", "int", "real", "bool", "string", "{", "exn"))
}

// unknown is a type of which nothing is known, or one with such in it.
func (m *maker) unknown() term {
	m.types++
	t := con("?" + strconv.Itoa(m.types))
	switch m.Intn(4) {
	case 0:
		return con("list", t)
	case 1:
		return pairOf(t, m.some(1))
	}
	return t
}

func (m *maker) anyOf(depth int) term {
	if m.Intn(3) == 0 {
		return m.unknown()
	}
	return m.some(depth)
}

// fit tells whether a type can be made of one that speaks of unknown ones, and by what.
func fit(t, general term, is map[string]term) bool {
	if general.name[0] == '?' {
		if known, ok := is[general.name]; ok {
			return sameTerm(known, t)
		}
		is[general.name] = t
		return true
	}
	if t.name != general.name || len(t.args) != len(general.args) {
		return false
	}
	for i := range t.args {
		if !fit(t.args[i], general.args[i], is) {
			return false
		}
	}
	return true
}

func sameTerm(a, b term) bool {
	return a.name == b.name && slices.EqualFunc(a.args, b.args, sameTerm)
}

func putAll(t term, is map[string]term) term {
	if x, ok := is[t.name]; ok {
		return x
	}
	out := term{name: t.name}
	for _, a := range t.args {
		out.args = append(out.args, putAll(a, is))
	}
	return out
}

// fits tells whether a name has a type; one that is general (it has variables) any that can be made of its own.
func fits(t term, b binding) bool {
	if b.vars == nil {
		return sameTerm(t, b.t)
	}
	return fit(t, b.t, map[string]term{})
}

func (m *maker) named(ok func(b binding) bool) (binding, bool) {
	var list []binding
	for i, b := range m.env {
		if ok(b) && !slices.ContainsFunc(m.env[i+1:], func(c binding) bool { return c.name == b.name }) {
			list = append(list, b)
		}
	}
	if len(list) == 0 {
		return binding{}, false
	}
	return list[len(list)-1-m.Intn(min(len(list), 5))], true
}

func (m *maker) newName() string {
	m.next++
	return m.of("x", "y", "f") + strconv.Itoa(m.next%7)
}

func (m *maker) scope(one func() string) string {
	before := m.env
	s := one()
	m.env = before
	return s
}

// typeText is a type as it is written; what is not known by a variable.
func typeText(t term) string {
	var args []string
	for _, a := range t.args {
		args = append(args, typeText(a))
	}
	switch {
	case t.name[0] == '?':
		return "'q" + t.name[1:]
	case t.name == "{":
		return "unit"
	case t.name[0] == '{':
		for i, label := range labelsOf(t) {
			args[i] = label + " : " + args[i]
		}
		return "{" + strings.Join(args, ", ") + "}"
	case t.name == "->":
		return "(" + args[0] + " -> " + args[1] + ")"
	}
	return strings.Join(append(args, t.name), " ")
}

// pat is a pattern of a type; its variables are added to the names that are known.
func (m *maker) pat(t term, depth int) string {
	if m.Intn(60) == 0 {
		t = m.some(1)
	}
	if m.Intn(12) == 0 {
		return "(" + m.pat(t, depth) + " : " + typeText(t) + ")"
	}
	variable := func() string {
		name := m.newName()
		m.env = append(m.env, binding{name: name, scheme: scheme{t: t}})
		return name
	}
	if depth == 0 || m.Intn(3) == 0 {
		return m.pick(variable, variable, word("_"))
	}
	inner := func(i int) string { return m.pat(t.args[i], depth-1) }
	switch {
	case m.Intn(8) == 0:
		return "(" + variable() + " as " + m.pat(t, depth-1) + ")"
	case t.name == "int":
		return m.of("1", "2")
	case t.name == "string":
		return "\"s\""
	case t.name == "bool":
		return m.of("true", "false")
	case t.name == "exn":
		return m.pick(word("Div"), func() string { return "(E " + m.pat(con("int"), 0) + ")" })
	case t.name == "list":
		return m.pick(word("nil"), func() string { return "[" + inner(0) + "]" }, func() string { return "(" + inner(0) + " :: " + m.pat(t, 0) + ")" })
	case t.name == "d":
		return m.pick(word("A"), func() string { return "(B " + inner(0) + ")" }, func() string { return "(C (" + inner(0) + ", " + m.pat(t, 0) + "))" })
	case t.name[0] == '{':
		l := labelsOf(t)
		for i := range l {
			l[i] += " = " + inner(i)
		}
		slices.Reverse(l)
		return "{" + strings.Join(l, ", ") + "}"
	}
	return variable()
}

// leaf is a small expression of a type.
func (m *maker) leaf(t term) string {
	if b, is := m.named(func(b binding) bool { return fits(t, b) }); is && m.Intn(4) > 0 {
		return b.name
	}
	inner := func(i int) string { return m.leaf(t.args[i]) }
	switch t.name {
	case "int":
		return m.of("1", "2")
	case "real":
		return m.of("1.5", "2.5")
	case "string":
		return "\"s\""
	case "bool":
		return m.of("true", "false")
	case "exn":
		return m.of("Div", "(E 1)")
	case "list":
		return m.pick(word("nil"), word("[]"), func() string { return "[" + inner(0) + "]" })
	case "d":
		return m.pick(word("A"), func() string { return "(B " + inner(0) + ")" })
	case "ref":
		return "(ref " + inner(0) + ")"
	case "->":
		return m.scope(func() string { return "(fn " + m.pat(t.args[0], 1) + " => " + m.leaf(t.args[1]) + ")" })
	}
	if t.name[0] == '{' {
		l := labelsOf(t)
		for i := range l {
			l[i] += " = " + inner(i)
		}
		return "{" + strings.Join(l, ", ") + "}"
	}
	return "(raise Div)"
}

// exp is an expression of a type.
func (m *maker) exp(t term, depth int) string {
	if m.Intn(100) == 0 {
		t = m.some(1)
	}
	if depth <= 0 {
		return m.leaf(t)
	}
	inner := func(t term) string { return m.exp(t, depth-1-m.Intn(2)) }
	switch m.Intn(16) {
	case 0, 1:
		if b, is := m.named(func(b binding) bool { return b.t.name == "->" && fits(t, binding{scheme: scheme{b.vars, b.t.args[1]}}) }); is {
			made := map[string]term{}
			fit(t, b.t.args[1], made)
			return "(" + b.name + " " + inner(m.filled(putAll(b.t.args[0], made), b)) + ")"
		}
	case 2:
		arg := m.some(1)
		return "(" + inner(to(arg, t)) + " " + inner(arg) + ")"
	case 3, 4, 5:
		return m.scope(func() string {
			n := 1 + m.Intn(3)
			var decs []string
			for range n {
				decs = append(decs, m.dec(depth-1))
			}
			return "let " + strings.Join(decs, " ") + " in " + inner(t) + " end"
		})
	case 6:
		return "(if " + inner(con("bool")) + " then " + inner(t) + " else " + inner(t) + ")"
	case 7:
		of := m.some(2)
		return "(case " + inner(of) + " of " + m.rules(of, t, depth-1) + ")"
	case 8:
		return m.pick(
			func() string { return "(#1 (" + inner(t) + ", " + inner(m.some(1)) + "))" },
			func() string { return "(#2 " + inner(pairOf(m.some(1), t)) + ")" },
			func() string { return "(#a " + inner(fields([]string{"a", "b"}, []term{t, m.some(1)})) + ")" })
	case 9:
		return "(" + inner(t) + " : " + typeText(t) + ")"
	case 10:
		return m.pick(
			func() string { return "(" + inner(m.some(1)) + "; " + inner(t) + ")" },
			func() string { return "(" + inner(t) + " handle " + m.rules(con("exn"), t, depth-1) + ")" },
			func() string { return "(raise " + inner(con("exn")) + ")" },
			func() string { return "(!" + inner(con("ref", t)) + ")" })
	}
	return m.byType(t, depth, inner)
}

// filled is a type with some types for what is not known of it.
func (m *maker) filled(t term, b binding) term {
	if b.vars == nil {
		return t
	}
	if t.name[0] == '?' {
		return m.some(1)
	}
	out := term{name: t.name}
	for _, a := range t.args {
		out.args = append(out.args, m.filled(a, b))
	}
	return out
}

// byType is an expression that only things of its type have.
func (m *maker) byType(t term, depth int, inner func(t term) string) string {
	between := func(a, b term, words ...string) func() string {
		return func() string { return "(" + inner(a) + " " + m.of(words...) + " " + inner(b) + ")" }
	}
	switch t.name {
	case "int", "real":
		return m.pick(between(t, t, "+", "-", "*"), func() string { return "(~ " + inner(t) + ")" })
	case "bool":
		of, same := con(m.of("int", "real", "string")), m.some(1)
		return m.pick(between(of, of, "<", "<=", ">", ">="), between(same, same, "="), between(t, t, "andalso", "orelse"))
	case "list":
		return m.pick(between(t.args[0], t, "::"), func() string { return "[" + inner(t.args[0]) + ", " + inner(t.args[0]) + "]" })
	case "d":
		return m.pick(func() string { return "(B " + inner(t.args[0]) + ")" }, func() string { return "(C (" + inner(t.args[0]) + ", " + inner(t) + "))" })
	case "{":
		of := m.some(1)
		return m.pick(between(con("ref", of), of, ":="), func() string { return "(while " + inner(con("bool")) + " do " + inner(of) + ")" })
	case "->":
		return "(fn " + m.rules(t.args[0], t.args[1], depth-1) + ")"
	}
	return m.leaf(t)
}

func (m *maker) rules(from, to term, depth int) string {
	var out []string
	for range 1 + m.Intn(2) {
		out = append(out, m.scope(func() string { return m.pat(from, 2) + " => " + m.exp(to, depth) }))
	}
	return strings.Join(out, " | ")
}

func (m *maker) dec(depth int) string {
	switch m.Intn(6) {
	case 0, 1:
		t := m.some(2)
		e := m.exp(t, depth)
		return "val " + m.pat(t, m.Intn(3)) + " = " + e
	case 2:
		t := to(m.anyOf(1), m.anyOf(1))
		e := m.leafOf(t, depth)
		name := m.newName()
		m.env = append(m.env, binding{name: name, scheme: scheme{[]int{0}, t}})
		return "val " + name + " = " + e
	}
	return "fun " + m.funs(1+m.Intn(5)/4, depth)
}

// leafOf is a function of a type that may speak of what is not known.
func (m *maker) leafOf(t term, depth int) string {
	return m.scope(func() string { return "fn " + m.pat(t.args[0], 1) + " => " + m.exp(t.args[1], depth) })
}

func (m *maker) funs(n, depth int) string {
	var all []binding
	var from [][]term
	for range n {
		args := []term{m.anyOf(1)}
		for range m.Intn(2) {
			args = append(args, m.anyOf(1))
		}
		t := m.some(1)
		if m.Intn(2) == 0 {
			t = args[m.Intn(len(args))]
		}
		for _, a := range slices.Backward(args) {
			t = to(a, t)
		}
		from = append(from, args)
		all = append(all, binding{name: m.newName(), scheme: scheme{t: t}})
	}
	before := m.env
	m.env = slices.Concat(before, all)
	var out []string
	for i, b := range all {
		var clauses []string
		for range 1 + m.Intn(2) {
			clauses = append(clauses, m.clause(b, from[i], depth))
		}
		out = append(out, strings.Join(clauses, " | "))
		all[i].vars = []int{0}
	}
	m.env = slices.Concat(before, all)
	return strings.Join(out, " and ")
}

func (m *maker) clause(b binding, from []term, depth int) string {
	return m.scope(func() string {
		s, t := b.name, b.t
		for _, a := range from {
			s += " " + m.pat(a, 2)
			t = t.args[1]
		}
		return s + " = " + m.exp(t, depth)
	})
}

func (m *maker) program() string {
	m.env, m.next = nil, m.Intn(7)
	s := prelude
	for range 1 + m.Intn(4) {
		s += " " + m.dec(m.Intn(5))
	}
	return s
}

// P5.1, P5.2: programs at random have just the types that the oracle finds, and the same is told of their trees.
func TestAgainstOracle(t *testing.T) {
	m := &maker{Rand: rand.New(rand.NewSource(5))}
	have, apart, chosen, general := 0, 0, 0, 0
	const many = 4000
	for range many {
		program := m.program()
		l, mishap := syntax.Parse(program)
		if mishap.Code != api.OK {
			t.Fatalf("%s: %v", program, mishap)
		}
		if thrown, isFault := types.Thrown(l); thrown != nil && !isFault {
			t.Fatalf("%s: throws %v", program, thrown)
		}
		decs, values, e := types.Infer(l)
		got := lines(values)
		if e != api.OK {
			got = "ErrType"
		}
		if want := oracleSays(l); got != want { // l is the oracle's now
			t.Fatalf("%s\n got  %s\n want %s", program, got, want)
		}
		if e == api.OK {
			have++
			if !syntax.Same(decs, l) {
				t.Fatalf("%s: other trees", program)
			}
			all := strings.Join(names(decs), " ")
			apart += strings.Count(all, "+real") + strings.Count(all, "<real")
			chosen += strings.Count(program, "#")
			general += strings.Count(got, "'")
		}
	}
	t.Logf("%d have types, %d operators of real, %d selectors, %d variables", have, apart, chosen, general)
	if have < many/4 || have > many*9/10 || apart < many/100 || chosen < many/100 || general < many/4 {
		t.Error("too many programs of one kind")
	}
}

// P5.4: a program at random in a structure has types just where it has.
func TestRandomWithin(t *testing.T) {
	m := &maker{Rand: rand.New(rand.NewSource(6))}
	for range 500 {
		program := m.program()
		outside := told(t, program)
		inside := told(t, "structure Wrap = struct "+program+" end")
		if outside != "ErrType" && outside != "" {
			outside = "Wrap." + strings.ReplaceAll(outside, "; ", "; Wrap.")
		}
		if inside = strings.ReplaceAll(inside, "Wrap.d", "d"); inside != outside {
			t.Fatalf("%s\n got  %s\n want %s", program, inside, outside)
		}
	}
}

// P5.4: what is told is the same, whatever names variables have.
func TestRandomNames(t *testing.T) {
	m := &maker{Rand: rand.New(rand.NewSource(7))}
	for range 500 {
		program := m.program()
		other := strings.NewReplacer("x1", "print", "x2", "y1", "y1", "x2", "f3", "ref'", "f4", "o'", "y5", "Int", "x6", "x6x6").Replace(program)
		if a, b := typesOnly(told(t, program)), typesOnly(told(t, other)); a != b {
			t.Fatalf("%s\n got  %s\n renamed %s", program, a, b)
		}
	}
}

// typesOnly is what is told without the values' names.
func typesOnly(told string) string {
	list := strings.Split(told, "; ")
	for i, s := range list {
		if _, ty, is := strings.Cut(s, " : "); is {
			list[i] = ty
		}
	}
	return strings.Join(list, "; ")
}

package match_test

import (
	"math/rand"
	"slices"
	"strconv"
	"strings"
	"sync"
	"testing"

	"smithy/api"
	"smithy/core"
)

// writer writes programs at random that match values of many types against patterns, and that tell by what they print which rule
// was taken, and what its names hold.
type writer struct {
	*rand.Rand
	text  strings.Builder // what was declared
	types []*typ
	next  int
}

// typ is a type: one of those that there are, a list, a tuple, a record, or a datatype of the program.
type typ struct {
	name string // its text
	like string // int, string, char, bool, unit, exn, list, tuple, record, data
	of   []*typ
	cons []*constructor
	show string // the function that tells what a value of it is
}

type constructor struct {
	name string
	of   *typ // nil: it has no argument
}

// bind is a name of a pattern.
type bind struct {
	name string
	is   *typ
}

func (m *writer) one(l ...string) string { return l[m.Intn(len(l))] }

func (m *writer) name(like string) string {
	m.next++
	return like + strconv.Itoa(m.next)
}

func (m *writer) declare(text string) { m.text.WriteString(text + "\n") }

// begin declares what all programs begin with, and some types.
func (m *writer) begin() {
	m.declare(`exception E exception F of int exception G of string * bool
fun i n = Int.toString n fun b true = "t" | b false = "f" fun u () = "u" fun s x = "'" ^ x ^ "'" fun c x = str x
fun x E = "E" | x (F n) = "F" ^ i n | x (G (t, y)) = "G" ^ s t ^ b y | x Div = "/" | x _ = "?"`)
	m.types = []*typ{{name: "int", like: "int", show: "i"}, {name: "int", like: "int", show: "i"}, {name: "string", like: "string", show: "s"}, {name: "bool", like: "bool", show: "b"}, {name: "char", like: "char", show: "c"}, {name: "unit", like: "unit", show: "u"}}
	exn := &typ{name: "exn", like: "exn", show: "x"}
	m.types = append(m.types, exn)
	for range 3 + m.Intn(4) {
		m.types = append(m.types, m.newType())
	}
}

func (m *writer) some() *typ { return m.types[m.Intn(len(m.types))] }

// newType declares a type, and the function that tells its values.
func (m *writer) newType() *typ {
	is := &typ{like: m.one("list", "tuple", "record", "data", "data", "data"), show: m.name("show")}
	switch is.like {
	case "list":
		of := m.some()
		is.of, is.name = []*typ{of}, "("+of.name+") list"
		m.declare("fun " + is.show + " [] = \".\" | " + is.show + " (y :: l) = " + of.show + " y ^ \",\" ^ " + is.show + " l")
	case "tuple", "record":
		var names, fields, shows []string
		for i := range 2 + m.Intn(3) {
			of := m.some()
			is.of = append(is.of, of)
			names, fields = append(names, of.name), append(fields, label(i)+" = y"+strconv.Itoa(i))
			shows = append(shows, of.show+" y"+strconv.Itoa(i))
			if is.like == "record" {
				names[i] = label(i) + " : " + of.name
			}
		}
		is.name = "(" + strings.Join(names, " * ") + ")"
		pattern := "(" + many(len(names), ", ", func(i int) string { return "y" + strconv.Itoa(i) }) + ")"
		if is.like == "record" {
			is.name, pattern = "{"+strings.Join(names, ", ")+"}", "{"+strings.Join(fields, ", ")+"}"
		}
		m.declare("fun " + is.show + " " + pattern + " = \"(\" ^ " + strings.Join(shows, " ^ \" \" ^ ") + " ^ \")\"")
	case "data":
		is.name = m.name("t")
		var texts, shows []string
		for i := range 1 + m.Intn(4) {
			c := &constructor{name: m.name("K")}
			text, show := c.name, is.show+" "+c.name+" = \""+c.name+"\""
			if m.Intn(2) == 0 {
				c.of = m.some()
				if i > 0 && m.Intn(3) == 0 {
					c.of = is
				}
				text += " of " + c.of.name
				show = is.show + " (" + c.name + " y) = \"" + c.name + "<\" ^ " + c.of.show + " y ^ \">\""
			}
			is.cons, texts, shows = append(is.cons, c), append(texts, text), append(shows, show)
		}
		m.declare("datatype " + is.name + " = " + strings.Join(texts, " | ") + " fun " + strings.Join(shows, " | "))
	}
	return is
}

// label is one of a record's; the order of labels is not that of their numbers.
func label(i int) string { return []string{"z", "a", "m", "k"}[i] }

// joined is a tuple or a record of texts, in any order.
func (m *writer) joined(is *typ, one func(i int) string) string {
	l := make([]string, len(is.of))
	for i := range l {
		l[i] = one(i)
	}
	if is.like == "tuple" {
		return "(" + strings.Join(l, ", ") + ")"
	}
	var out []string
	for _, i := range m.Perm(len(l)) {
		out = append(out, label(i)+" = "+l[i])
	}
	return "{" + strings.Join(out, ", ") + "}"
}

func (m *writer) constant(is *typ) string {
	switch is.like {
	case "int":
		return m.one("0", "1", "2", "3", "~1", "123456789012345678901")
	case "string":
		return m.one(`""`, `"a"`, `"b"`, `"ab"`)
	case "char":
		return m.one(`#"a"`, `#"b"`, `#"\000"`)
	case "bool":
		return m.one("true", "false")
	}
	return "()"
}

// pattern is a pattern, with its names, and a value that fits it.
func (m *writer) pattern(is *typ, deep int, names *[]bind) (text, value string) {
	named := func() string {
		n := m.name("v")
		*names = append(*names, bind{n, is})
		return n
	}
	switch k := m.Intn(12); {
	case deep <= 0 || k < 2:
		return "_", m.value(is, deep)
	case k < 4:
		return named(), m.value(is, deep)
	case k == 4:
		n := named()
		text, value = m.pattern(is, deep-1, names)
		return "(" + n + " as " + text + ")", value
	case k == 5:
		text, value = m.pattern(is, deep-1, names)
		return "(" + text + " : " + is.name + ")", value
	}
	switch is.like {
	case "exn":
		switch m.Intn(3) {
		case 0:
			text, value = m.pattern(m.types[0], deep-1, names)
			return "(F " + text + ")", "(F " + value + ")"
		case 1:
			text, value = m.pattern(m.types[2], deep-1, names)
			truth, is := m.pattern(m.types[3], deep-1, names)
			return "(G (" + text + ", " + truth + "))", "(G (" + value + ", " + is + "))"
		}
		text = m.one("E", "Div", "Chr")
		return text, text
	case "list":
		if m.Intn(3) == 0 {
			return m.one("[]", "nil"), "[]"
		}
		first, a := m.pattern(is.of[0], deep-1, names)
		if m.Intn(3) == 0 {
			return "[" + first + "]", "[" + a + "]"
		}
		rest, b := m.pattern(is, deep-1, names)
		return "(" + first + " :: " + rest + ")", "(" + a + " :: " + b + ")"
	case "tuple", "record":
		texts, values := make([]string, len(is.of)), make([]string, len(is.of))
		for i, of := range is.of {
			texts[i], values[i] = m.pattern(of, deep-1, names)
		}
		return m.joined(is, func(i int) string { return texts[i] }), m.joined(is, func(i int) string { return values[i] })
	case "data":
		c := is.cons[m.Intn(len(is.cons))]
		if c.of == nil {
			return c.name, c.name
		}
		text, value = m.pattern(c.of, deep-1, names)
		return "(" + c.name + " " + text + ")", "(" + c.name + " " + value + ")"
	}
	text = m.constant(is)
	return text, text
}

// value is an expression of a value.
func (m *writer) value(is *typ, deep int) string {
	switch is.like {
	case "exn":
		return m.one("E", "(F "+m.constant(m.types[0])+")", "(G ("+m.constant(m.types[2])+", "+m.constant(m.types[3])+"))", "Div", "Chr", "Size")
	case "list":
		if deep <= 0 || m.Intn(3) == 0 {
			return "[]"
		}
		return "(" + m.value(is.of[0], deep-1) + " :: " + m.value(is, deep-1) + ")"
	case "tuple", "record":
		return m.joined(is, func(i int) string { return m.value(is.of[i], deep-1) })
	case "data":
		c := is.cons[m.Intn(len(is.cons))]
		if deep <= 0 { // the first constructor doesn't hold its own type
			c = is.cons[0]
		}
		if c.of == nil {
			return c.name
		}
		return "(" + c.name + " " + m.value(c.of, deep-1) + ")"
	}
	return m.constant(is)
}

// answer is what comes of a rule: a text that tells of some of its names, or something that looks at one of them again.
func (m *writer) answer(rule string, names []bind, deep int) string {
	if m.Intn(12) == 0 {
		return "(print \"" + rule + "\"; raise " + m.one("Div", "E", "F 2") + ")"
	}
	out := "\"" + rule + "\""
	for _, n := range names {
		switch m.Intn(8) {
		case 0, 1:
			if deep > 0 {
				out += " ^ (case " + n.name + " of " + m.rules(n.is, deep-1, nil) + ")"
			}
		case 2:
			if deep > 0 {
				out += " ^ ((fn " + m.rules(n.is, deep-1, nil) + ") " + n.name + ")"
			}
		case 3, 4, 5:
			out += " ^ " + n.is.show + " " + n.name
		}
	}
	return "(" + out + ")"
}

// rules are some, and values that fit them are added to a list.
func (m *writer) rules(is *typ, deep int, values *[]string) string {
	var out []string
	last := 1 + m.Intn(4)
	for i := range last {
		var names []bind
		p, v := m.pattern(is, 1+m.Intn(4), &names)
		if i == last-1 && m.Intn(2) == 0 {
			p = "_"
			names = nil
		}
		out = append(out, p+" => "+m.answer(m.name("r"), names, deep))
		if values != nil {
			*values = append(*values, v)
		}
	}
	return strings.Join(out, " | ")
}

// clauses are those of a function of several arguments.
func (m *writer) clauses(name string, args []*typ, values *[]string) string {
	var out []string
	last := 1 + m.Intn(4)
	for i := range last {
		var names []bind
		line, tuple := name, []string{}
		for _, is := range args {
			p, v := m.pattern(is, 1+m.Intn(3), &names)
			if i == last-1 && m.Intn(3) > 0 {
				p = m.name("w")
			}
			line, tuple = line+" "+p, append(tuple, v)
		}
		names = slices.DeleteFunc(names, func(n bind) bool { return !slices.Contains(strings.FieldsFunc(line, isNoName), n.name) })
		out = append(out, line+" = "+m.answer(m.name("r"), names, 2))
		*values = append(*values, strings.Join(tuple, " "))
	}
	return strings.Join(out, " | ")
}

func isNoName(r rune) bool { return !('a' <= r && r <= 'z' || '0' <= r && r <= '9') }

// program matches some values, and prints what comes of it.
func (m *writer) program() string {
	m.text.Reset()
	m.next = 0
	m.begin()
	for range 1 + m.Intn(3) {
		is, f := m.some(), m.name("f")
		var values []string
		switch m.Intn(5) {
		case 0:
			m.declare("fun " + f + " z = (raise z) handle " + m.rules(m.types[6], 2, &values))
		case 1:
			args := []*typ{is, m.some(), m.some()}[:2+m.Intn(2)]
			m.declare("fun " + m.clauses(f, args, &values))
			values = append(values, many(len(args), " ", func(i int) string { return m.value(args[i], 3) }))
		case 2:
			var names []bind
			p, v := m.pattern(is, 4, &names)
			m.declare("fun " + f + " z = let val " + p + " = z in " + m.answer("v", names, 2) + " end")
			values = append(values, v, m.value(is, 3))
		case 3:
			m.declare("fun " + f + " z = case z of " + m.rules(is, 2, &values))
			values = append(values, m.value(is, 3))
		default:
			m.declare("val " + f + " = fn " + m.rules(is, 2, &values))
			values = append(values, m.value(is, 3), m.value(is, 2))
		}
		for _, v := range values {
			m.declare("val _ = print (" + f + " " + v + " ^ \"\\n\") handle Match => print \"no match\\n\" | Bind => print \"no bind\\n\" | e => print (x e ^ \"!\\n\")")
		}
	}
	return m.text.String()
}

// tally is what came of programs at random.
type tally struct {
	sync.Mutex
	typed, without, no int
	slow               float64
}

// P9.1: programs at random do what their switches do, with however many steps. P9.3: those without warnings raise neither Match
// nor Bind.
func TestRandomPrograms(t *testing.T) {
	const hands, each = 8, 300
	all := &tally{}
	t.Run("hands", func(t *testing.T) {
		for seed := range hands {
			t.Run(strconv.Itoa(seed), func(t *testing.T) {
				t.Parallel()
				m := &writer{Rand: rand.New(rand.NewSource(int64(seed)))}
				for range each {
					if program := m.program(); len(program) < api.MaxSource {
						all.add(t, m, program)
					}
				}
			})
		}
	})
	const many = hands * each
	t.Logf("%d typed, %d without warnings, %d with no match, up to %.2f times as many steps", all.typed, all.without, all.no, all.slow)
	if all.typed < many*9/10 || all.without < many/20 || all.no < many/20 {
		t.Error("too few programs of one kind")
	}
	if all.slow > 3 {
		t.Error("switches take too many steps")
	}
}

func (a *tally) add(t *testing.T, m *writer, program string) {
	c, is := mayBe(t, program)
	if !is {
		return
	}
	s, list := switched(t, c)
	w := worlds()[m.Intn(3)]
	out := alike(t, c, s, w, 25, m.Intn(100), m.Intn(500), m.Intn(2000), 12000)
	text := told(out)
	no := strings.Contains(text, "no match") || strings.Contains(text, "no bind")
	if no && len(list) == 0 {
		t.Errorf("%s\nhas no warnings, and does %s", program, text)
	}
	slow := 0.0
	if out.Status == api.Exited {
		slow = float64(steps(t, s, w)) / float64(steps(t, c, w)+20)
	}
	a.Lock()
	defer a.Unlock()
	a.typed++
	a.slow = max(a.slow, slow)
	if len(list) == 0 {
		a.without++
	}
	if no {
		a.no++
	}
}

// steps is how many steps a term takes till it has ended; one more than there may be, if it doesn't.
func steps(t *testing.T, c api.Core, w api.World) int {
	low, high := 0, api.MaxFuel+1
	for low < high {
		middle := (low + high) / 2
		out, e := core.Run(c, w, middle)
		if e != api.OK {
			t.Fatal(e)
		}
		if out.Status == api.Running {
			low = middle + 1
		} else {
			high = middle
		}
	}
	return low
}

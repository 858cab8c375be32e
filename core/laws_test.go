package core_test

import (
	"math/rand"
	"reflect"
	"slices"
	"strings"
	"testing"

	"smithy/api"
	"smithy/core"
)

// copied is a term that shares nothing with another.
func copied(c api.Core) api.Core {
	c.Names, c.Tags, c.Kids, c.Rows, c.Int.Mag = slices.Clone(c.Names), slices.Clone(c.Tags), slices.Clone(c.Kids), slices.Clone(c.Rows), slices.Clone(c.Int.Mag)
	for i := range c.Kids {
		c.Kids[i] = copied(c.Kids[i])
	}
	for i := range c.Rows {
		c.Rows[i] = api.Row{S: copiedShape(c.Rows[i].S), E: copied(c.Rows[i].E)}
	}
	return c
}

func copiedShape(s api.Shape) api.Shape {
	s.Kids, s.Int.Mag = slices.Clone(s.Kids), slices.Clone(s.Int.Mag)
	for i := range s.Kids {
		s.Kids[i] = copiedShape(s.Kids[i])
	}
	return s
}

// places are all terms in a term for which another one may stand.
func places(c *api.Core) []*api.Core {
	out := []*api.Core{c}
	for i := range c.Kids {
		inner := places(&c.Kids[i])
		if c.Kind == api.CoreRec && i < len(c.Names) {
			inner = inner[1:]
		}
		out = append(out, inner...)
	}
	for i := range c.Rows {
		out = append(out, places(&c.Rows[i].E)...)
	}
	return out
}

// isBeginning tells whether a trace is the beginning of another one.
func isBeginning(a, b []api.Event) bool {
	last := len(a) - 1
	if last < 0 {
		return true
	}
	return len(a) <= len(b) && slices.Equal(a[:last], b[:last]) && a[last].Kind == b[last].Kind && a[last].Name == b[last].Name && strings.HasPrefix(b[last].Text, a[last].Text)
}

// P7.4: with more steps a run has done no less; once it has ended it has ended.
func TestMoreSteps(t *testing.T) {
	m := &maker{Rand: rand.New(rand.NewSource(2)), wrong: 200}
	ended := 0
	for range 400 {
		c := m.term()
		var before api.Outcome
		for fuel := range 150 {
			out := runIn(t, c, smallWorld(), fuel)
			if before.Status != api.Running && !reflect.DeepEqual(out, before) || !isBeginning(before.Trace, out.Trace) {
				t.Fatalf("%d steps: %+v, and ahead of it %+v\n%s", fuel, out, before, shown(c))
			}
			before = out
		}
		out := runIn(t, c, smallWorld(), api.MaxFuel)
		if before.Status != api.Running && !reflect.DeepEqual(out, before) || !isBeginning(before.Trace, out.Trace) {
			t.Fatalf("%+v, and ahead of it %+v\n%s", out, before, shown(c))
		}
		if before.Status != api.Running {
			ended++
		}
	}
	if ended < 200 {
		t.Errorf("%d ended", ended)
	}
}

// quiet are terms that do nothing, where the names at are known.
func (m *maker) quiet() api.Core {
	switch m.Intn(5) {
	case 0:
		return fn("q", prims("print", name("q")))
	case 1:
		return tagged(3, whole(1), m.leaf("text"))
	case 2:
		return prims("ref", whole(1))
	case 3:
		return prims("add", whole(1), whole(2))
	}
	return m.leaf(m.one("int", "bool", "text", "real", "list", "label"))
}

// P7.4: a let of something quiet, a handler that raises again what it gets change nothing but steps.
func TestQuiet(t *testing.T) {
	m := &maker{Rand: rand.New(rand.NewSource(3)), wrong: 200}
	held := 0
	for range 2000 {
		c := m.term()
		before := runIn(t, c, smallWorld(), 1000)
		with := copied(c)
		all := places(&with)
		at := all[m.Intn(len(all))]
		if m.Intn(2) == 0 {
			*at = node(api.CoreLet, "quiet", m.quiet(), *at)
		} else {
			*at = node(api.CoreHandle, "quiet", *at, node(api.CoreRaise, "", name("quiet")))
		}
		after := runIn(t, with, smallWorld(), api.MaxFuel)
		switch {
		case before.Status != api.Running && !reflect.DeepEqual(after, before):
			t.Fatalf("%+v, and then %+v\n%s\n%s", before, after, shown(c), shown(with))
		case before.Status == api.Running && !isBeginning(before.Trace, after.Trace):
			t.Fatalf("%+v, and then %+v\n%s\n%s", before, after, shown(c), shown(with))
		case before.Status != api.Running:
			held++
		}
	}
	if held < 1000 {
		t.Errorf("%d held", held)
	}
	hold(t, []row{
		{`(print "a")`, "a; exited 0", 2},
		{`(let q 1 (print "a"))`, "a; exited 0", 4},
		{`(let q (fn x (print "b")) (print "a"))`, "a; exited 0", 4},
		{`(handle (print "a") q (raise q))`, "a; exited 0", 3},
		{`(div 1 0)`, "err uncaught exception Div; exited 1", 3},
		{`(handle (div 1 0) q (raise q))`, "err uncaught exception Div; exited 1", 6},
	})
}

// verdict is whether a term may be, found out another way: what is to be looked at still is a list, each with the names that are
// known there, and each rule is a line for itself.
func verdict(c api.Core) bool {
	type item struct {
		c     *api.Core
		s     *api.Shape
		deep  int
		known map[string]int
		names map[string]int // of the shape
	}
	plus := func(known map[string]int, names ...string) map[string]int {
		out := map[string]int{}
		for n := range known {
			out[n] = 1
		}
		for _, n := range names {
			out[n] = 1
		}
		return out
	}
	kidsOf := map[int]int{api.CoreFn: 1, api.CoreApp: 2, api.CoreLet: 2, api.CoreField: 1, api.CoreIf: 3, api.CoreRaise: 1, api.CoreHandle: 2, api.CoreCase: 2}
	may, nodes := true, 0
	rule := func(holds bool) { may = may && holds }
	for todo := []item{{c: &c, deep: 1}}; len(todo) > 0 && may; {
		x := todo[0]
		todo = todo[1:]
		nodes++
		rule(nodes <= 200000 && x.deep <= 10000)
		add := func(c *api.Core, known map[string]int) {
			todo = append(todo, item{c: c, deep: x.deep + 1, known: known})
		}
		if s := x.s; s != nil {
			rule(s.Kind >= 1 && s.Kind <= 6)
			rule(s.Name == "" || x.names[s.Name] == 0)
			x.names[s.Name]++
			rule(s.Kind != api.ShapeInt || !s.Int.Neg && len(s.Int.Mag) == 0 || len(s.Int.Mag) > 0 && s.Int.Mag[len(s.Int.Mag)-1] != 0)
			rule(s.Kind != api.ShapeText || len(s.Text) <= 65536)
			rule(s.Kind != api.ShapeSmall && s.Kind != api.ShapeBlock || s.N >= 0 && s.N < s.Span && s.Span <= 1073741824)
			rule(s.Kind != api.ShapeExn || len(s.Kids) == 1 && x.known[s.Cell] > 0)
			rule(s.Kind != api.ShapeBlock || len(s.Kids) <= 1024)
			rule(s.Kind == api.ShapeExn || s.Kind == api.ShapeBlock || len(s.Kids) == 0)
			for i := range s.Kids {
				todo = append(todo, item{s: &s.Kids[i], deep: x.deep + 1, known: x.known, names: x.names})
			}
			continue
		}
		c, n := x.c, len(x.c.Kids)
		rule(c.Kind >= 1 && c.Kind <= 18)
		rule(len(c.Rows) == 0 || c.Kind == api.CoreCase)
		switch c.Kind {
		case api.CoreVar:
			rule(x.known[c.Name] > 0)
		case api.CoreInt:
			rule(!c.Int.Neg && len(c.Int.Mag) == 0 || len(c.Int.Mag) > 0 && c.Int.Mag[len(c.Int.Mag)-1] != 0)
		case api.CoreText:
			rule(len(c.Text) <= 65536)
		case api.CoreExn:
			rule(c.N >= 0 && c.N <= 7)
		case api.CoreSmall, api.CoreBlock:
			rule(c.N >= 0 && c.N <= 1073741823)
		case api.CoreField:
			rule(c.N >= 0 && c.N <= 1023)
		case api.CoreFn, api.CoreLet, api.CoreHandle:
			rule(c.Name != "")
		}
		switch c.Kind {
		case api.CoreBlock:
			rule(n <= 1024)
		case api.CorePrim:
			_, rest, is := strings.Cut(" "+kindsOf, " "+c.Name+":")
			rule(is && strings.Index(rest, " ") == n)
		case api.CoreSwitch:
			rule(n == len(c.Tags)+2)
			for i, tag := range c.Tags {
				rule(tag >= 0 && tag < 1073741824 && slices.Index(c.Tags, tag) == i)
			}
		case api.CoreRec:
			rule(n == len(c.Names)+1 && n > 1)
			for i, name := range c.Names {
				rule(name != "" && slices.Index(c.Names, name) == i && i < n && c.Kids[i].Kind == api.CoreFn)
			}
		default:
			rule(n == kidsOf[c.Kind])
		}
		for i := range c.Kids {
			switch {
			case c.Kind == api.CoreFn, i == 1 && (c.Kind == api.CoreLet || c.Kind == api.CoreHandle):
				add(&c.Kids[i], plus(x.known, c.Name))
			case c.Kind == api.CoreRec:
				add(&c.Kids[i], plus(x.known, c.Names...))
			default:
				add(&c.Kids[i], x.known)
			}
		}
		for i := range c.Rows {
			var names []string
			for wait := []api.Shape{c.Rows[i].S}; len(wait) > 0; wait = wait[1:] {
				wait = append(wait, wait[0].Kids...)
				if wait[0].Name != "" {
					names = append(names, wait[0].Name)
				}
			}
			todo = append(todo, item{s: &c.Rows[i].S, deep: x.deep + 1, known: x.known, names: map[string]int{}})
			add(&c.Rows[i].E, plus(x.known, names...))
		}
	}
	return may
}

// P7.1: terms of which parts were changed at random are refused just where the rules say so; R1: of none anything else than what
// a run may throw is thrown.
func TestChanged(t *testing.T) {
	m := &maker{Rand: rand.New(rand.NewSource(4)), wrong: 300}
	var verdicts [2]int
	for i := range 10000 {
		c := copied(m.term())
		for range 1 + m.Intn(6) {
			m.change(reflect.ValueOf(&c).Elem())
		}
		want := verdict(c)
		if got := core.Check(c); (got == api.OK) != want || !want && got != api.ErrCore {
			t.Fatalf("%d: %v, and it may be: %v\n%+v", i, got, want, c)
		}
		out, e := core.Run(c, smallWorld(), 100)
		if (e == api.OK) != want || !want && !reflect.DeepEqual(out, api.Outcome{}) {
			t.Fatalf("%+v, %v\n%+v", out, e, c)
		}
		core.Size(c)
		core.Plain(c)
		if want {
			verdicts[1]++
			if thrown, may := core.Thrown(c, smallWorld(), 100); !may {
				t.Fatalf("%+v: throws %v", c, thrown)
			}
		} else {
			verdicts[0]++
		}
	}
	t.Log(verdicts)
	if slices.Min(verdicts[:]) < 3000 {
		t.Error(verdicts)
	}
}

// change writes something else into some part of a term.
func (m *maker) change(x reflect.Value) {
	switch x.Kind() {
	case reflect.Slice:
		switch {
		case x.Len() == 0:
			if m.Intn(3) == 0 {
				x.Set(reflect.MakeSlice(x.Type(), 1, 1))
			}
		case m.Intn(20) == 0:
			x.Set(x.Slice(1, x.Len()))
		case m.Intn(20) == 0:
			x.Set(reflect.AppendSlice(reflect.MakeSlice(x.Type(), 0, 1), x))
			x.Set(reflect.Append(x, x.Index(m.Intn(x.Len()))))
		case m.Intn(20) == 0:
			x.Index(m.Intn(x.Len())).Set(x.Index(m.Intn(x.Len())))
		default:
			m.change(x.Index(m.Intn(x.Len())))
		}
	case reflect.Struct:
		for range 4 { // most fields are empty ones
			if f := x.Field(m.Intn(x.NumField())); f.Kind() == reflect.Slice && f.Len() > 0 || m.Intn(8) == 0 {
				m.change(f)
				return
			}
		}
	case reflect.Int:
		x.SetInt(int64(m.Intn(22) - 1))
	case reflect.Bool:
		x.SetBool(!x.Bool())
	case reflect.Uint32:
		x.SetUint(uint64(m.Intn(2)))
	case reflect.String:
		x.SetString(m.one("x", "y", "z", "e", "d", "", "v1", "add", "print", "substring"))
	}
}

package flow_test

import (
	"math/rand"
	"reflect"
	"slices"
	"strings"
	"testing"

	"smithy/api"
	"smithy/flow"
)

// P10.4: more steps have done no less, and what has ended has ended: with every number of steps up to some behind the end, or, if
// there is none by then, up to 500; and with some greater ones.
func TestMoreSteps(t *testing.T) {
	m := &maker{Rand: rand.New(rand.NewSource(2)), wrong: 200}
	var ended [3]int
	for range 600 {
		p := m.program()
		var before api.Outcome
		hold := func(fuel int) {
			out := runIn(t, p, smallWorld(), fuel)
			if before.Status != api.Running && !reflect.DeepEqual(out, before) || !isBeginning(before.Trace, out.Trace) {
				t.Fatalf("%d steps: %+v, and ahead of it %+v\n%s", fuel, out, before, shown(p))
			}
			before = out
		}
		for fuel, behind := 0, 0; fuel < 500 && behind < 20; fuel++ {
			hold(fuel)
			behind += min(before.Status, 1)
		}
		for _, fuel := range []int{501, 1000, api.MaxFuel - 1, api.MaxFuel} {
			hold(fuel)
		}
		ended[before.Status]++
	}
	t.Log(ended)
	if slices.Min(ended[:]) < 30 {
		t.Errorf("%v", ended)
	}
}

// The same, step by step, against the oracle.
func TestEachStep(t *testing.T) {
	m := &maker{Rand: rand.New(rand.NewSource(3)), wrong: 300}
	for range 300 {
		p := m.program()
		for fuel := range 60 {
			want, lost := oracleRun(p, smallWorld(), fuel)
			if lost {
				break
			}
			if got := runIn(t, p, smallWorld(), fuel); !reflect.DeepEqual(got, want) {
				t.Fatalf("%d steps: %+v, not %+v\n%s", fuel, got, want, shown(p))
			}
		}
	}
}

// place is a node that is to be looked at, with the locals that are set there.
type place struct {
	f    *api.Flow
	deep int
	set  map[int]int
}

// judge finds out another way whether a program may be: what is to be looked at still is a list, and each rule is a line for
// itself.
type judge struct {
	p     api.Program
	may   bool
	nodes int
	todo  []place
}

func verdict(p api.Program) bool {
	j := &judge{p: p, may: true}
	j.rule(len(p.Funs) > 0 && p.Funs[0].Params == 0)
	for i := range p.Funs {
		f := &p.Funs[i]
		j.rule(f.Params >= 0)
		j.rule(f.Params <= 1024)
		j.rule(f.Locals >= f.Params)
		j.rule(f.Locals <= 200000)
		if !j.may {
			return false
		}
		set := map[int]int{}
		for v := range f.Params {
			set[v] = 1
		}
		for j.todo = []place{{&f.Body, 1, set}}; len(j.todo) > 0 && j.may; {
			x := j.todo[0]
			j.todo = j.todo[1:]
			j.nodes++
			j.rule(j.nodes+len(p.Funs) <= 200000)
			j.rule(x.deep <= 10000)
			j.node(x, f.Locals)
		}
	}
	return j.may
}

func (j *judge) rule(holds bool) { j.may = j.may && holds }

// node looks at a node of a function with so many locals.
func (j *judge) node(x place, locals int) {
	f := x.f
	kid := func(i int, put ...int) {
		set := map[int]int{}
		for v := range x.set {
			set[v] = 1
		}
		for _, v := range put {
			j.rule(v >= 0 && v < locals)
			set[v] = 1
		}
		if i < len(f.Kids) {
			j.todo = append(j.todo, place{&f.Kids[i], x.deep + 1, set})
		}
	}
	many := 0
	switch f.Kind {
	case api.FlowRet, api.FlowRaise:
		j.atoms(x, f.A)
	case api.FlowLet:
		many = 1
		j.op(x, &f.Op)
		kid(0, f.V)
	case api.FlowIf:
		many = 2
		j.atoms(x, f.A)
		kid(0)
		kid(1)
	case api.FlowSwitch:
		many = len(f.Tags) + 1
		j.atoms(x, f.A)
		for i, tag := range f.Tags {
			j.rule(tag >= 0 && tag < 1073741824 && slices.Index(f.Tags, tag) == i)
			kid(i)
		}
		kid(len(f.Tags))
	case api.FlowTail:
		j.rule(f.F >= 0 && f.F < len(j.p.Funs) && j.p.Funs[f.F].Params == len(f.Args))
		j.atoms(x, f.Args...)
	case api.FlowGo:
		j.rule(len(f.Args) == 1)
		j.atoms(x, append(slices.Clone(f.Args), f.A)...)
	case api.FlowTry:
		many = 3
		kid(0)
		kid(1, f.V)
		kid(2, f.W)
	default:
		j.rule(false)
	}
	j.rule(len(f.Kids) == many)
}

func (j *judge) op(x place, o *api.Op) {
	n := len(o.Args)
	called := -1
	if o.F >= 0 && o.F < len(j.p.Funs) {
		called = j.p.Funs[o.F].Params
	}
	switch o.Kind {
	case api.OpAtom:
		j.rule(n == 1)
	case api.OpPrim:
		_, rest, is := strings.Cut(" "+kindsOf+" ", " "+o.Name+":")
		j.rule(is && strings.Index(rest, " ") == n)
	case api.OpCall:
		j.rule(called == n)
	case api.OpApply:
		j.rule(n == 2)
	case api.OpBlock:
		j.rule(n <= 1024 && o.N >= 0 && o.N <= 1073741823)
	case api.OpField, api.OpCapture:
		j.rule(n == 1 && o.N >= 0 && o.N <= 1023)
	case api.OpClosure:
		j.rule(n <= 1024 && called == 2)
	case api.OpPatch:
		j.rule(n == 2 && o.N >= 0 && o.N <= 1023)
	default:
		j.rule(false)
	}
	j.atoms(x, o.Args...)
}

func (j *judge) atoms(x place, l ...api.Atom) {
	for _, a := range l {
		mag := a.Int.Mag
		j.rule(a.Kind >= 1 && a.Kind <= 6)
		j.rule(a.Kind != api.AtomVar || x.set[a.V] > 0)
		j.rule(a.Kind != api.AtomInt || len(mag) == 0 && !a.Int.Neg || len(mag) > 0 && mag[len(mag)-1] != 0)
		j.rule(a.Kind != api.AtomSmall || a.V >= 0 && a.V < 1073741824)
		j.rule(a.Kind != api.AtomText || len(a.Text) <= 65536)
		j.rule(a.Kind != api.AtomExn || a.V >= 0 && a.V <= 7)
	}
}

// P10.1: programs of which parts were changed at random are refused just where the rules say so; R1: nothing else is thrown than
// what may be, inside.
func TestChanged(t *testing.T) {
	m := &maker{Rand: rand.New(rand.NewSource(4)), wrong: 300}
	var verdicts [2]int
	for i := range 12000 {
		p := copied(m.program())
		for range 1 + m.Intn(6) {
			m.change(reflect.ValueOf(&p).Elem())
		}
		want := verdict(p)
		if got := flow.Check(p); (got == api.OK) != want || !want && got != api.ErrFlow {
			t.Fatalf("%d: %v, and it may be: %v\n%+v", i, got, want, p)
		}
		out, e := flow.Run(p, smallWorld(), 100)
		if (e == api.OK) != want || !want && !reflect.DeepEqual(out, api.Outcome{}) {
			t.Fatalf("%+v, %v\n%+v", out, e, p)
		}
		if thrown, may := flow.Thrown(p, smallWorld(), 100); !may {
			t.Fatalf("%+v: throws %v", p, thrown)
		}
		if want {
			verdicts[1]++
			if ref, lost := oracleRun(p, smallWorld(), 100); !lost && !reflect.DeepEqual(out, ref) {
				t.Fatalf("%+v, not %+v\n%s", out, ref, shown(p))
			}
		} else {
			verdicts[0]++
		}
	}
	t.Log(verdicts)
	if slices.Min(verdicts[:]) < 3000 {
		t.Error(verdicts)
	}
}

// few makes a node that sets and reads some few locals, whether they are set or not.
func (m *maker) few(deep int) api.Flow {
	read := func() api.Atom {
		if m.Intn(8) > 0 {
			return whole(1)
		}
		return local(m.Intn(4))
	}
	if deep <= 0 {
		return []api.Flow{ret(read()), tail(1, atoms{read()}), {Kind: api.FlowRaise, A: read()}, {Kind: api.FlowGo, A: read(), Args: atoms{read()}}}[m.Intn(4)]
	}
	kid := func() api.Flow { return m.few(deep - 1 - m.Intn(2)) }
	switch m.Intn(6) {
	case 0:
		return api.Flow{Kind: api.FlowIf, A: read(), Kids: kids{kid(), kid()}}
	case 1:
		return api.Flow{Kind: api.FlowSwitch, A: read(), Tags: []int{0, 1}, Kids: kids{kid(), kid(), kid()}}
	case 2, 3:
		return api.Flow{Kind: api.FlowTry, V: m.Intn(4), W: m.Intn(4), Kids: kids{kid(), kid(), kid()}}
	}
	return let(m.Intn(4), api.Op{Kind: api.OpBlock, Args: atoms{read(), read()}}, kid())
}

// P10.1: which locals are set where, in nodes at random.
func TestSetAtRandom(t *testing.T) {
	m := &maker{Rand: rand.New(rand.NewSource(5))}
	var verdicts [2]int
	for range 60000 {
		f := m.few(3)
		p := api.Program{Funs: []api.Func{{Locals: 4 - m.Intn(10)/9, Body: f}, {Params: 1, Locals: 4, Body: m.few(1)}}}
		want := verdict(p)
		if got := flow.Check(p); (got == api.OK) != want {
			t.Fatalf("%v, and it may be: %v\n%s", got, want, shown(p))
		}
		if !want {
			verdicts[0]++
			continue
		}
		verdicts[1]++
		ref, _ := oracleRun(p, smallWorld(), 50)
		if out := runIn(t, p, smallWorld(), 50); !reflect.DeepEqual(out, ref) {
			t.Fatalf("%+v, not %+v\n%s", out, ref, shown(p))
		}
	}
	t.Log(verdicts)
	if slices.Min(verdicts[:]) < 5000 {
		t.Error(verdicts)
	}
}

// copied is a program that shares nothing with another.
func copied(p api.Program) api.Program {
	p.Funs = slices.Clone(p.Funs)
	for i := range p.Funs {
		p.Funs[i].Body = copiedFlow(p.Funs[i].Body)
	}
	return p
}

func copiedFlow(f api.Flow) api.Flow {
	f.A = copiedAtoms(atoms{f.A})[0]
	f.Args, f.Op.Args, f.Tags, f.Kids = copiedAtoms(f.Args), copiedAtoms(f.Op.Args), slices.Clone(f.Tags), slices.Clone(f.Kids)
	for i := range f.Kids {
		f.Kids[i] = copiedFlow(f.Kids[i])
	}
	return f
}

func copiedAtoms(l atoms) atoms {
	l = slices.Clone(l)
	for i := range l {
		l[i].Int.Mag = slices.Clone(l[i].Int.Mag)
	}
	return l
}

// change writes something else into some part of a program.
func (m *maker) change(x reflect.Value) {
	switch x.Kind() {
	case reflect.Slice:
		switch {
		case x.Len() == 0:
			if m.Intn(3) == 0 {
				x.Set(reflect.MakeSlice(x.Type(), 1, 1))
			}
		case m.Intn(25) == 0:
			x.Set(x.Slice(1, x.Len()))
		case m.Intn(25) == 0:
			x.Set(reflect.AppendSlice(reflect.MakeSlice(x.Type(), 0, 1), x))
			x.Set(reflect.Append(x, x.Index(m.Intn(x.Len()))))
		case m.Intn(25) == 0:
			x.Index(m.Intn(x.Len())).Set(x.Index(m.Intn(x.Len())))
		default:
			m.change(x.Index(m.Intn(x.Len())))
		}
	case reflect.Struct:
		for range 4 { // most fields are empty ones
			if f := x.Field(m.Intn(x.NumField())); (f.Kind() == reflect.Slice || f.Kind() == reflect.Struct) && !f.IsZero() || m.Intn(8) == 0 {
				m.change(f)
				return
			}
		}
	case reflect.Int:
		x.SetInt(int64(m.Intn(14) - 1))
	case reflect.Bool:
		x.SetBool(!x.Bool())
	case reflect.Uint32:
		x.SetUint(uint64(m.Intn(2)))
	case reflect.String:
		x.SetString(m.one("", "add", "print", "substring", "neg", "exit", "eq"))
	}
}

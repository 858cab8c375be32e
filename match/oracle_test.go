package match_test

import (
	"math/rand"
	"reflect"
	"slices"
	"strconv"
	"testing"

	"smithy/api"
	"smithy/big"
	"smithy/core"
	"smithy/match"
)

// asker asks questions word by word as the chapter has them.
type asker struct{ asked int }

func haveOneHead(a, b api.Shape) bool {
	if a.Kind != b.Kind {
		return false
	}
	switch a.Kind {
	case api.ShapeInt:
		return big.Cmp(a.Int, b.Int) == 0
	case api.ShapeText:
		return a.Text == b.Text
	case api.ShapeExn:
		return a.Cell == b.Cell
	case api.ShapeSmall:
		return a.N == b.N
	}
	return a.N == b.N && len(a.Kids) == len(b.Kids)
}

// open opens a row by a head, unless it is left out.
func open(row []api.Shape, head api.Shape) ([]api.Shape, bool) {
	var kids []api.Shape
	switch {
	case row[0].Kind == api.ShapeAny:
		for range head.Kids {
			kids = append(kids, api.Shape{Kind: api.ShapeAny})
		}
	case haveOneHead(row[0], head):
		kids = row[0].Kids
	default:
		return nil, false
	}
	return slices.Concat(kids, row[1:]), true
}

func openAll(rows [][]api.Shape, head api.Shape) [][]api.Shape {
	var out [][]api.Shape
	for _, row := range rows {
		if opened, is := open(row, head); is {
			out = append(out, opened)
		}
	}
	return out
}

func (a *asker) isUseful(row []api.Shape, rows [][]api.Shape) bool {
	a.asked++
	if len(row) == 0 {
		return len(rows) == 0
	}
	if row[0].Kind != api.ShapeAny {
		opened, _ := open(row, row[0])
		return a.isUseful(opened, openAll(rows, row[0]))
	}
	var heads []api.Shape
	tags := map[int]bool{}
	for _, r := range rows {
		if r[0].Kind == api.ShapeAny || slices.ContainsFunc(heads, func(h api.Shape) bool { return haveOneHead(h, r[0]) }) {
			continue
		}
		heads = append(heads, r[0])
		if r[0].Kind == api.ShapeSmall || r[0].Kind == api.ShapeBlock {
			tags[r[0].N] = true
		}
	}
	if len(heads) > 0 && (heads[0].Kind == api.ShapeSmall || heads[0].Kind == api.ShapeBlock) && len(tags) == heads[0].Span {
		for _, head := range heads {
			opened, _ := open(row, head)
			if a.isUseful(opened, openAll(rows, head)) {
				return true
			}
		}
		return false
	}
	var rest [][]api.Shape
	for _, r := range rows {
		if r[0].Kind == api.ShapeAny {
			rest = append(rest, r[1:])
		}
	}
	return a.isUseful(row[1:], rest)
}

// warnings are those of a case.
func (a *asker) warnings(rows []api.Row) []api.Warning {
	var list []api.Warning
	var ahead [][]api.Shape
	for i, r := range rows {
		if !a.isUseful([]api.Shape{r.S}, ahead) {
			list = append(list, api.Warning{Row: i})
		}
		ahead = append(ahead, []api.Shape{r.S})
	}
	if a.isUseful([]api.Shape{{Kind: api.ShapeAny}}, ahead) {
		list = append(list, api.Warning{Row: -1})
	}
	return list
}

// shaper makes shapes at random, of a sort, or of whatever may be.
type shaper struct{ *rand.Rand }

// odd is a shape that needn't go together with others.
func (m *shaper) odd(deep int) api.Shape {
	kids := func(many int) []api.Shape {
		var l []api.Shape
		for range many {
			l = append(l, m.odd(deep-1))
		}
		return l
	}
	span := 1 + m.Intn(3)
	switch kind := m.Intn(12); {
	case kind < 2:
		return api.Shape{Kind: api.ShapeInt, Int: big.Of(int64(m.Intn(3)))}
	case kind < 3:
		return api.Shape{Kind: api.ShapeText, Text: strconv.Itoa(m.Intn(3))}
	case kind < 6:
		return api.Shape{Kind: api.ShapeSmall, N: m.Intn(span), Span: span}
	case kind < 9 && deep > 0:
		return api.Shape{Kind: api.ShapeBlock, N: m.Intn(span), Span: span, Kids: kids(m.Intn(4))}
	case kind < 10 && deep > 0:
		return api.Shape{Kind: api.ShapeExn, Cell: []string{"e", "d"}[m.Intn(2)], Kids: kids(1)}
	}
	return api.Shape{Kind: api.ShapeAny}
}

// sort is what shapes may have in common: constructors, each with the sorts of its fields, or integers, texts, exceptions.
type sort struct {
	kind int
	cons []con
}

type con struct {
	isSmall bool
	of      []*sort
}

// sortOf is a sort at random; some of them hold themselves.
func (m *shaper) sortOf(deep int) *sort {
	s := &sort{kind: []int{api.ShapeInt, api.ShapeText, api.ShapeExn, api.ShapeBlock, api.ShapeBlock, api.ShapeBlock, api.ShapeBlock}[m.Intn(7)]}
	if deep == 0 && s.kind == api.ShapeExn {
		s.kind = api.ShapeBlock
	}
	many := 2
	if s.kind == api.ShapeBlock {
		many = []int{1, 1, 2, 2, 3, 4}[m.Intn(6)]
	}
	for i := range many {
		c := con{isSmall: s.kind == api.ShapeBlock && (deep == 0 || m.Intn(2) == 0)}
		if !c.isSmall && (deep > 0 || s.kind == api.ShapeExn) {
			for range []int{1, 0, 1, 2, 2, 3}[m.Intn(6)] {
				if i > 0 && m.Intn(4) == 0 {
					c.of = append(c.of, s)
				} else {
					c.of = append(c.of, m.sortOf(max(deep-1, 0)))
				}
			}
		}
		if s.kind == api.ShapeExn {
			c.of = []*sort{m.sortOf(max(deep-1, 0))}
		}
		s.cons = append(s.cons, c)
	}
	return s
}

// shape is a shape of a sort.
func (m *shaper) shape(s *sort, deep int) api.Shape {
	if deep == 0 || m.Intn(3) == 0 {
		return api.Shape{Kind: api.ShapeAny}
	}
	out := api.Shape{Kind: s.kind}
	number := m.Intn(len(s.cons))
	switch s.kind {
	case api.ShapeInt:
		out.Int = big.Of(int64(m.Intn(3)))
		return out
	case api.ShapeText:
		out.Text = strconv.Itoa(m.Intn(3))
		return out
	case api.ShapeExn:
		out.Cell = []string{"e", "d"}[number]
	default:
		out.N, out.Span = number, len(s.cons)
		if s.cons[number].isSmall {
			out.Kind = api.ShapeSmall
		}
	}
	for _, inner := range s.cons[number].of {
		out.Kids = append(out.Kids, m.shape(inner, deep-1))
	}
	return out
}

// rows are fewer than most.
func (m *shaper) rows(most int, one func() api.Shape) []api.Row {
	var rows []api.Row
	for range m.Intn(m.Intn(most) + 1) {
		rows = append(rows, api.Row{S: one(), E: api.Core{Kind: api.CoreSmall}})
	}
	return rows
}

// P9.2: what is told of cases at random, of shapes that go together and of such that don't, and how many questions that takes.
func TestOracle(t *testing.T) {
	t.Parallel()
	m := &shaper{rand.New(rand.NewSource(1))}
	none, some, asked := 0, 0, 0
	for i := range 30000 {
		var rows []api.Row
		if i%3 == 0 {
			rows = m.rows(14, func() api.Shape { return m.odd(3) })
		} else {
			s := m.sortOf(2)
			rows = m.rows(14, func() api.Shape { return m.shape(s, 4) })
		}
		c, a := caseOf(rows...), &asker{}
		want := a.warnings(rows)
		got, e := match.Warnings(c)
		if e != api.OK || !reflect.DeepEqual(got, want) || match.Asked(c) != a.asked {
			t.Fatalf("%s: %v, %v, %d questions, not %v, %d", shown(c), got, e, match.Asked(c), want, a.asked)
		}
		if len(want) == 0 {
			none++
		} else {
			some++
		}
		asked = max(asked, a.asked)
	}
	t.Logf("%d without warnings, %d with some, up to %d questions", none, some, asked)
	if none < 2000 || some < 5000 || asked < 150 {
		t.Errorf("%d without warnings, %d with some, up to %d questions", none, some, asked)
	}
}

// P9.2: cases at random of which there are many questions: they are counted up to as many as may be.
func TestManyQuestions(t *testing.T) {
	t.Parallel()
	m := &shaper{rand.New(rand.NewSource(5))}
	var few, lots, over int
	for range 300 {
		columns := 6 + m.Intn(9)
		rows := m.rows(100, func() api.Shape {
			s := api.Shape{Kind: api.ShapeBlock, Span: 1}
			for range columns {
				kid := api.Shape{Kind: api.ShapeAny}
				if m.Intn(3) == 0 {
					kid = api.Shape{Kind: api.ShapeSmall, N: m.Intn(2), Span: 2}
				}
				s.Kids = append(s.Kids, kid)
			}
			return s
		})
		c, a := caseOf(rows...), &asker{}
		want := a.warnings(rows)
		got, e := match.Warnings(c)
		switch {
		case a.asked > api.MaxMatch:
			over++
			if e != api.ErrLong || got != nil {
				t.Errorf("%s: %v, %v after %d questions", shown(c), got, e, a.asked)
			}
			continue
		case a.asked > 1000:
			lots++
		default:
			few++
		}
		if e != api.OK || !reflect.DeepEqual(got, want) || match.Asked(c) != a.asked {
			t.Errorf("%s: %v, %v, %d questions, not %v, %d", shown(c), got, e, match.Asked(c), want, a.asked)
		}
	}
	t.Logf("%d of few questions, %d of many, %d of too many", few, lots, over)
	if few < 20 || lots < 20 || over < 5 {
		t.Errorf("%d of few questions, %d of many, %d of too many", few, lots, over)
	}
}

// mostValues is how many values of a sort are listed.
const mostValues = 300

// lister lists values of sorts; over, if there were too many.
type lister struct{ over bool }

// values are terms of values of a sort, up to a depth, among them at least one of each kind that shapes of that depth can tell
// apart.
func (v *lister) values(s *sort, deep int) []api.Core {
	out := v.all(s, deep)
	if len(out) > mostValues {
		v.over = true
		return nil
	}
	return out
}

func (v *lister) all(s *sort, deep int) []api.Core {
	if deep < 0 || v.over {
		return nil
	}
	var out []api.Core
	switch s.kind {
	case api.ShapeInt:
		for i := range 4 {
			out = append(out, api.Core{Kind: api.CoreInt, Int: big.Of(int64(i))})
		}
		return out
	case api.ShapeText:
		for i := range 4 {
			out = append(out, api.Core{Kind: api.CoreText, Text: strconv.Itoa(i)})
		}
		return out
	case api.ShapeExn:
		for i, cell := range []api.Core{{Kind: api.CoreVar, Name: "e"}, {Kind: api.CoreVar, Name: "d"}} {
			for _, arg := range v.values(s.cons[i].of[0], deep-1) {
				out = append(out, api.Core{Kind: api.CoreBlock, Kids: []api.Core{cell, arg}})
			}
		}
		return append(out, api.Core{Kind: api.CoreBlock, Kids: []api.Core{{Kind: api.CoreExn, N: 7}, {Kind: api.CoreSmall}}})
	}
	for i, c := range s.cons {
		if c.isSmall {
			out = append(out, api.Core{Kind: api.CoreSmall, N: i})
			continue
		}
		fields := [][]api.Core{nil}
		for _, inner := range c.of {
			var longer [][]api.Core
			for _, kid := range v.values(inner, deep-1) {
				for _, l := range fields {
					longer = append(longer, append(slices.Clone(l), kid))
				}
			}
			if fields = longer; len(fields) > mostValues {
				v.over = true
				return nil
			}
		}
		for _, l := range fields {
			out = append(out, api.Core{Kind: api.CoreBlock, N: i, Kids: l})
		}
	}
	return out
}

// within is a case of a value, each row of which, and what comes where none fits, exits with a code of its own.
func within(rows []api.Row, v api.Core) api.Core {
	exit := func(code int) api.Core {
		return api.Core{Kind: api.CorePrim, Name: "exit", Kids: []api.Core{{Kind: api.CoreInt, Int: big.Of(int64(code))}}}
	}
	own := slices.Clone(rows)
	for i := range own {
		own[i].E = exit(i)
	}
	c := api.Core{Kind: api.CoreCase, Rows: own, Kids: []api.Core{v, exit(255)}}
	return term2("(let e !0 (let d !1 $a))", c)
}

func term2(text string, a api.Core) api.Core {
	return (&reader{words(text), nil, map[string]api.Core{"a": a}}).term()
}

// P9.2: a row is told to be never taken just where no value takes it, and a case not to be exhaustive just where some value takes
// none of its rows. P9.1: switches do with each of the values what the case does.
func TestValues(t *testing.T) {
	t.Parallel()
	m := &shaper{rand.New(rand.NewSource(2))}
	held, tried := 0, 0
	for range 3000 {
		const deep = 2
		s := m.sortOf(1)
		list := &lister{}
		all := list.values(s, deep+2) // what ends stands at most so deep below what a shape asks about
		if len(all) == 0 || list.over {
			continue
		}
		rows := m.rows(14, func() api.Shape { return m.shape(s, deep) })
		taken := map[int]bool{}
		for _, v := range all {
			c := within(rows, v)
			out, _ := core.Run(c, api.World{}, 100)
			made, _ := switched(t, c)
			if is, _ := core.Run(made, api.World{}, 1000); out.Status != api.Exited || !reflect.DeepEqual(is, out) {
				t.Fatalf("%s: %v, and %v", shown(c), out, is)
			}
			taken[out.Code] = true
			tried++
		}
		var want []api.Warning
		for i := range rows {
			if !taken[i] {
				want = append(want, api.Warning{Row: i})
			}
		}
		if taken[255] {
			want = append(want, api.Warning{Row: -1})
		}
		if got, e := match.Warnings(caseOf(rows...)); e != api.OK || !reflect.DeepEqual(got, want) {
			t.Fatalf("%s: %v, %v, not %v", shown(caseOf(rows...)), got, e, want)
		}
		held++
	}
	t.Logf("%d cases held, by %d values", held, tried)
	if held < 1500 {
		t.Errorf("%d cases held", held)
	}
}

package match

import (
	"slices"
	"strings"

	"smithy/api"
	"smithy/big"
)

// line is a row of a case: what is still asked of values ahead of it, the names that it has for them, and what comes of it.
type line struct {
	wants *want
	names []named
	e     *api.Core
}

// want is that what a place holds fits a shape that not everything fits, and what else is wanted.
type want struct {
	at    int
	shape *api.Shape
	rest  *want
}

// wanted is what a line wants, if what a place holds is to fit a shape; its names are added to the line's. Of what there is only
// one kind, as of records, nothing is asked but of its parts.
func (m *maker) wanted(l *line, at int, s *api.Shape, rest *want) *want {
	if s.Name != "" {
		l.names = append(l.names, named{s.Name, at})
	}
	switch {
	case s.Kind == api.ShapeAny:
		return rest
	case isTagged(s) && s.Span == 1:
		return m.wantedOfFields(l, at, 0, s.Kids, rest)
	}
	return &want{at, s, rest}
}

// wantedOfFields is what a line wants, if the fields of what a place holds, from the first one on, are to fit shapes.
func (m *maker) wantedOfFields(l *line, at, first int, kids []api.Shape, rest *want) *want {
	for i := len(kids) - 1; i >= 0; i-- {
		if kids[i].Kind != api.ShapeAny || kids[i].Name != "" {
			rest = m.wanted(l, m.fieldOf(at, first+i), &kids[i], rest)
		}
	}
	return rest
}

func isTagged(s *api.Shape) bool { return s.Kind == api.ShapeSmall || s.Kind == api.ShapeBlock }

// Kinds of trees.
const (
	treeLeaf   = iota // line: what comes of it
	treeElse          // join: goes on there
	treeJoin          // kids[0], where join is known
	treeSwitch        // kids: one for each of shapes, by its number or tag; behind them, unless there are no other ones, one more
	treeEqual         // kids[0], if the place at holds what shapes[0] says, else kids[1]
	treeLess          // kids[0], if it holds something ahead of that, else kids[1]
	treeSame          // kids[0], if its first field is the cell of shapes[0], else kids[1]
)

// tree is what is asked to find the first line that fits, and how it goes on.
type tree struct {
	kind   int
	line   *line
	join   *join
	at     int
	shapes []*api.Shape
	kids   []*tree
}

// join is what several trees go on with.
type join struct {
	uses int
	then *tree
	name string // of the function that does it, if there is one
}

func (j *join) used() *tree {
	j.uses++
	return &tree{kind: treeElse, join: j}
}

// decide is the tree of the first line that fits, or otherwise. Lines that ask about one place at first are asked together; those
// behind them are gone on with where none of them fits: so each line stands in a tree once.
func (m *maker) decide(lines []line, otherwise *join) *tree {
	switch {
	case len(lines) == 0:
		return otherwise.used()
	case lines[0].wants == nil:
		return &tree{kind: treeLeaf, line: &lines[0]}
	}
	many, isWhole := together(lines)
	if many == len(lines) {
		return m.ask(lines, isWhole, otherwise)
	}
	j := &join{}
	t := m.ask(lines[:many], isWhole, j)
	if j.uses == 0 {
		return t
	}
	j.then = m.decide(lines[many:], otherwise)
	return &tree{kind: treeJoin, join: j, kids: []*tree{t}}
}

// together is how many lines, from the first one on, can be asked by one tree, and whether there is a line among them for
// each value that there is.
func together(lines []line) (many int, isWhole bool) {
	first := lines[0].wants
	tags := map[int]int{}
	for many < len(lines) {
		w := lines[many].wants
		if w == nil || w.at != first.at || !areOfOneSort(w.shape, first.shape) {
			break
		}
		tags[w.shape.N]++
		many++
	}
	return many, isTagged(first.shape) && len(tags) == first.shape.Span
}

// areOfOneSort tells whether one tree can ask about two shapes. Cells with two names may be one: of two exceptions the first is
// asked about first.
func areOfOneSort(a, b *api.Shape) bool {
	if isTagged(a) && isTagged(b) {
		return true
	}
	return a.Kind == b.Kind && (a.Kind != api.ShapeExn || a.Cell == b.Cell)
}

// ask is the tree of lines that are asked together.
func (m *maker) ask(lines []line, isWhole bool, otherwise *join) *tree {
	first := lines[0].wants
	if first.shape.Kind == api.ShapeExn {
		then := m.opened(lines, 1, otherwise)
		return &tree{kind: treeSame, at: first.at, shapes: []*api.Shape{first.shape}, kids: []*tree{then, otherwise.used()}}
	}
	slices.SortStableFunc(lines, func(a, b line) int { return compare(a.wants.shape, b.wants.shape) })
	t := &tree{kind: treeSwitch, at: first.at}
	for len(lines) > 0 {
		s := lines[0].wants.shape
		many := 1
		for many < len(lines) && compare(lines[many].wants.shape, s) == 0 {
			many++
		}
		t.shapes = append(t.shapes, s)
		t.kids = append(t.kids, m.opened(lines[:many], 0, otherwise))
		lines = lines[many:]
	}
	switch {
	case !isTagged(first.shape):
		return search(t.at, t.shapes, t.kids, otherwise)
	case !isWhole:
		t.kids = append(t.kids, otherwise.used())
	}
	return t
}

// opened is the tree of lines whose first want is met, but for the fields from the first one on.
func (m *maker) opened(lines []line, first int, otherwise *join) *tree {
	for i := range lines {
		l := &lines[i]
		w := l.wants
		l.wants = m.wantedOfFields(l, w.at, first, w.shape.Kids, w.rest)
	}
	return m.decide(lines, otherwise)
}

// compare tells which of two shapes that are asked together comes first, by what they say themselves.
func compare(a, b *api.Shape) int {
	switch a.Kind {
	case api.ShapeInt:
		return big.Cmp(a.Int, b.Int)
	case api.ShapeText:
		return strings.Compare(a.Text, b.Text)
	}
	return a.N - b.N
}

// mostInRow is how many values are asked about one behind the other.
const mostInRow = 3

// search is the tree of what a place holds that is one of shapes, in their order, or none.
func search(at int, shapes []*api.Shape, kids []*tree, otherwise *join) *tree {
	if len(shapes) > mostInRow {
		half := len(shapes) / 2
		ahead, behind := search(at, shapes[:half], kids[:half], otherwise), search(at, shapes[half:], kids[half:], otherwise)
		return &tree{kind: treeLess, at: at, shapes: shapes[half : half+1], kids: []*tree{ahead, behind}}
	}
	t := otherwise.used()
	for i := range slices.Backward(shapes) {
		t = &tree{kind: treeEqual, at: at, shapes: shapes[i : i+1], kids: []*tree{kids[i], t}}
	}
	return t
}

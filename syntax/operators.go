package syntax

import (
	"smithy/api"
	"smithy/lex"
)

// fixity says whether a name is an operator, and how it holds.
type fixity struct {
	infix bool
	level int
	right bool
}

// named is a name with what it was.
type named struct {
	name string
	fixity
}

// operators are names as declarations have them, with what they were before, so that a scope can be left.
type operators struct {
	declared map[string]fixity
	before   []named
}

func newOperators() operators { return operators{declared: make(map[string]fixity)} }

// of is what a name is.
func (o *operators) of(name string) fixity {
	if f, is := o.declared[name]; is {
		return f
	}
	return atFirst(name)
}

// atFirst is what a name is that nothing has declared.
func atFirst(name string) fixity {
	switch name {
	case "*", "/", "div", "mod":
		return fixity{infix: true, level: 7}
	case "+", "-", "^":
		return fixity{infix: true, level: 6}
	case "::", "@":
		return fixity{infix: true, level: 5, right: true}
	case "=", "<>", "<", "<=", ">", ">=":
		return fixity{infix: true, level: 4}
	case ":=", "o":
		return fixity{infix: true, level: 3}
	}
	return fixity{}
}

func (o *operators) declare(names []string, f fixity) {
	for _, name := range names {
		o.before = append(o.before, named{name, o.of(name)})
		o.declared[name] = f
	}
}

// declareBy is what a declaration says of operators; others say nothing.
func (o *operators) declareBy(d *api.Dec) {
	switch d.Kind {
	case api.DecInfix:
		o.declare(d.Names, fixity{infix: true, level: d.N, right: d.Right})
	case api.DecNonfix:
		o.declare(d.Names, fixity{})
	}
}

// scope begins one: what it answers ends it.
func (o *operators) scope() (end func()) {
	mark := len(o.before)
	return func() {
		for len(o.before) > mark {
			last := o.before[len(o.before)-1]
			o.before = o.before[:len(o.before)-1]
			o.declared[last.name] = last.fixity
		}
	}
}

// isOperator tells whether an operator comes.
func (r *reader) isOperator() bool { return r.isValueName() && r.of(r.now().Text).infix }

// isPatOperator tells whether one comes that holds patterns.
func (r *reader) isPatOperator() bool { return r.isOperator() && !r.is("=") }

// joinedBefore tells whether what is ahead of the operator w holds together before w is looked at; thrown is ErrFix, if
// neither can be.
func (f fixity) joinedBefore(ahead fixity, w *lex.Token) bool {
	if ahead.level == f.level && ahead.right != f.right {
		panic(api.Mishap{Code: api.ErrFix, At: w.At})
	}
	return ahead.level > f.level || ahead.level == f.level && !f.right
}

// chain is things that are read already, with an operator between each two that waits for what is behind it.
type chain[T any] struct {
	things  []*T
	waiting []named
	join    func(name string, a, b *T) *T
}

// joinLast joins the last two things.
func (c *chain[T]) joinLast() {
	n := len(c.waiting) - 1
	c.things[n] = c.join(c.waiting[n].name, c.things[n], c.things[n+1])
	c.things, c.waiting = c.things[:n+1], c.waiting[:n]
}

// operated reads things with an operator between each two.
func operated[T any](r *reader, one func() *T, operator func() bool, join func(name string, a, b *T) *T) *T {
	first := one()
	if !operator() {
		return first
	}
	c := &chain[T]{things: []*T{first}, join: join}
	for operator() {
		w := r.take()
		f := r.of(w.Text)
		for len(c.waiting) > 0 && f.joinedBefore(c.waiting[len(c.waiting)-1].fixity, w) {
			c.joinLast()
		}
		c.waiting = append(c.waiting, named{w.Text, f})
		c.things = append(c.things, one())
	}
	for len(c.waiting) > 0 {
		c.joinLast()
	}
	return c.things[0]
}

package front

import "smithy/api"

// Trees that hold themselves would be gone through without end. Those to which types were given are not so great, and not so
// deep.
const (
	mostThings = 8 * api.MaxSource
	mostNested = 8 * api.MaxDepth
)

// measurer goes through trees; left is how many things they may still have, below 0 once they are too great.
type measurer struct{ left int }

// Fits tells whether declarations are small enough to be gone through.
func Fits(l []api.Dec) bool {
	m := &measurer{mostThings}
	row(m, l, 0, m.dec)
	return m.left >= 0
}

// row measures things that are so deep in others.
func row[T any](m *measurer, l []T, deep int, one func(x *T, deep int)) {
	if len(l) > m.left || deep == mostNested {
		m.left = -1
		return
	}
	m.left -= len(l)
	for i := range l {
		one(&l[i], deep+1)
	}
}

func (m *measurer) dec(d *api.Dec, deep int) {
	row(m, d.Pats, deep, m.pat)
	row(m, d.Exps, deep, m.exp)
	row(m, d.Funs, deep, m.fun)
	row(m, d.Datas, deep, m.data)
	row(m, d.Decs, deep, m.dec)
}

func (m *measurer) fun(f *api.Fun, deep int) { row(m, f.Clauses, deep, m.clause) }

func (m *measurer) clause(c *api.Clause, deep int) {
	row(m, c.Pats, deep, m.pat)
	m.exp(&c.E, deep)
}

func (m *measurer) data(d *api.Data, deep int) { row(m, d.Cons, deep, func(*api.Con, int) {}) }

func (m *measurer) pat(p *api.Pat, deep int) { row(m, p.Kids, deep, m.pat) }

func (m *measurer) exp(e *api.Exp, deep int) {
	row(m, e.Kids, deep, m.exp)
	row(m, e.Rules, deep, m.rule)
	row(m, e.Decs, deep, m.dec)
}

func (m *measurer) rule(r *api.Rule, deep int) {
	m.pat(&r.P, deep)
	m.exp(&r.E, deep)
}

package syntax

import "smithy/api"

// allWithin tells whether things are at most so deep; it looks no deeper.
func allWithin[T any](l []T, most int, one func(x *T, most int) bool) bool {
	for i := range l {
		if !one(&l[i], most) {
			return false
		}
	}
	return true
}

func decWithin(d *api.Dec, most int) bool {
	most--
	return most >= 0 &&
		allWithin(d.Pats, most, patWithin) &&
		allWithin(d.Exps, most, expWithin) &&
		allWithin(d.Funs, most, funWithin) &&
		allWithin(d.Datas, most, dataWithin) &&
		allWithin(d.Types, most, typeWithin) &&
		allWithin(d.Decs, most, decWithin) &&
		allWithin(d.Sigs, most, sigWithin) &&
		allWithin(d.Specs, most, specWithin)
}

func specWithin(s *api.Spec, most int) bool {
	most--
	return most >= 0 && dataWithin(&s.Data, most) && allWithin(s.Types, most, typeWithin)
}

func expWithin(e *api.Exp, most int) bool {
	most--
	return most >= 0 &&
		allWithin(e.Kids, most, expWithin) &&
		allWithin(e.Rules, most, ruleWithin) &&
		allWithin(e.Decs, most, decWithin) &&
		allWithin(e.Types, most, typeWithin)
}

func patWithin(p *api.Pat, most int) bool {
	most--
	return most >= 0 && allWithin(p.Kids, most, patWithin) && allWithin(p.Types, most, typeWithin)
}

func typeWithin(t *api.Type, most int) bool {
	most--
	return most >= 0 && allWithin(t.Args, most, typeWithin)
}

// What stands between these counts nothing.

func sigWithin(s *api.Sig, most int) bool { return allWithin(s.Specs, most, specWithin) }

func funWithin(f *api.Fun, most int) bool { return allWithin(f.Clauses, most, clauseWithin) }

func clauseWithin(c *api.Clause, most int) bool {
	return allWithin(c.Pats, most, patWithin) && expWithin(&c.E, most)
}

func ruleWithin(r *api.Rule, most int) bool { return patWithin(&r.P, most) && expWithin(&r.E, most) }

func dataWithin(d *api.Data, most int) bool { return allWithin(d.Cons, most, conWithin) }

func conWithin(c *api.Con, most int) bool { return allWithin(c.Types, most, typeWithin) }

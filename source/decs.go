package source

import (
	"smithy/api"
	"smithy/prim"
)

// decs does declarations, one behind the other, and answers what is known then.
func (r *runner) decs(l []api.Dec, at *scope) *scope {
	for i := range l {
		at = r.dec(&l[i], at)
	}
	return at
}

func (r *runner) dec(d *api.Dec, at *scope) *scope {
	switch d.Kind {
	case api.DecVal:
		return r.val(d, at)
	case api.DecFun:
		return r.funs(d.Funs, at)
	case api.DecData:
		return datatypes(d.Datas, at)
	case api.DecExn:
		return at.with(d.Name, exception(prim.Exception(d.Name), len(d.Types) > 0))
	case api.DecStruct:
		return &scope{name: d.Name, structure: r.declared(d, at), ahead: at}
	case api.DecType, api.DecSig, api.DecInfix, api.DecNonfix:
		return at
	}
	prim.Must(false)
	return nil
}

func (r *runner) val(d *api.Dec, at *scope) *scope {
	prim.Must(len(d.Pats) == 1 && len(d.Exps) == 1)
	inner, fits := r.fit(&d.Pats[0], r.exp(&d.Exps[0], at), at)
	if !fits {
		r.RaiseBuiltIn(api.ExnBind)
	}
	return inner
}

// datatypes declares their constructors.
func datatypes(l []api.Data, at *scope) *scope {
	for _, d := range l {
		for place, c := range d.Cons {
			at = at.with(c.Name, constructor(place, len(c.Types) > 0))
		}
	}
	return at
}

// declared is a structure that is declared. What a signature hides of it has no name by which types would let it be found.
func (r *runner) declared(d *api.Dec, at *scope) *structure {
	if len(d.Names) > 0 {
		return r.structure(d.Names[0], at)
	}
	return gathered(r.decs(d.Decs, at), at)
}

package syntax

import (
	"strconv"

	"smithy/api"
)

func (w *writer) dec(d *api.Dec) {
	w.down()
	switch d.Kind {
	case api.DecVal:
		w.words("val")
		w.pat(item(d.Pats, 0), rankAs)
		w.words("=")
		w.wholeExp(item(d.Exps, 0))
	case api.DecFun:
		w.words("fun")
		writeRow(w, d.Funs, "and", w.fun)
	case api.DecData:
		w.words("datatype")
		writeRow(w, d.Datas, "and", w.data)
	case api.DecType:
		w.words("type")
		w.typeName(item(d.Datas, 0))
		w.tyBehind("=", d.Types)
	case api.DecExn:
		w.words("exception", d.Name)
		w.tyBehind("of", d.Types)
	case api.DecInfix:
		w.infix(d)
	case api.DecNonfix:
		w.words("nonfix")
		w.words(d.Names...)
	case api.DecStruct:
		w.structure(d)
	case api.DecSig:
		w.words("signature", d.Name, "=")
		w.specs(d.Specs)
	}
	w.declareBy(d)
	w.up()
}

func (w *writer) infix(d *api.Dec) {
	if d.Right {
		w.words("infixr")
	} else {
		w.words("infix")
	}
	if d.N != 0 {
		w.words(strconv.Itoa(d.N))
	}
	w.words(d.Names...)
}

func (w *writer) tyBehind(word string, types []api.Type) {
	if len(types) > 0 {
		w.words(word)
		w.ty(&types[0], rankArrow)
	}
}

func (w *writer) fun(f *api.Fun) {
	for i := range f.Clauses {
		c := &f.Clauses[i]
		if i > 0 {
			w.words("|")
		}
		w.words(f.Name)
		for j := range c.Pats {
			w.pat(&c.Pats[j], rankAtom)
		}
		e := &c.E
		if e.Kind == api.ExpTyped {
			w.tyBehind(":", e.Types)
			e = item(e.Kids, 0)
		}
		w.words("=")
		w.exp(e, rankHandle, openAheadOf(i+1 < len(f.Clauses)))
	}
}

func (w *writer) data(d *api.Data) {
	w.typeName(d)
	w.words("=")
	writeRow(w, d.Cons, "|", func(c *api.Con) {
		w.words(c.Name)
		w.tyBehind("of", c.Types)
	})
}

// typeName writes a type's parameters and its name.
func (w *writer) typeName(d *api.Data) {
	if len(d.Vars) > 1 {
		w.words("(")
		writeRow(w, d.Vars, ",", func(name *string) { w.words(*name) })
		w.words(")")
	} else {
		w.words(d.Vars...)
	}
	w.words(d.Name)
}

func (w *writer) structure(d *api.Dec) {
	w.words("structure", d.Name)
	if len(d.Sigs) > 0 {
		if d.Opaque {
			w.words(":>")
		} else {
			w.words(":")
		}
		w.sig(&d.Sigs[0])
	}
	w.words("=")
	if len(d.Names) > 0 {
		w.words(d.Names[0])
		return
	}
	leave := w.scope()
	w.words("struct")
	for i := range d.Decs {
		w.dec(&d.Decs[i])
	}
	w.words("end")
	leave()
}

func (w *writer) sig(s *api.Sig) {
	if s.Name != "" {
		w.words(s.Name)
		return
	}
	w.specs(s.Specs)
}

func (w *writer) specs(l []api.Spec) {
	w.words("sig")
	for i := range l {
		w.spec(&l[i])
	}
	w.words("end")
}

func (w *writer) spec(s *api.Spec) {
	w.down()
	switch s.Kind {
	case api.SpecVal:
		w.words("val", s.Name)
		w.tyBehind(":", s.Types)
	case api.SpecType:
		w.words("type")
		w.typeName(&s.Data)
		w.tyBehind("=", s.Types)
	case api.SpecData:
		w.words("datatype")
		w.data(&s.Data)
	case api.SpecExn:
		w.words("exception", s.Name)
		w.tyBehind("of", s.Types)
	}
	w.up()
}

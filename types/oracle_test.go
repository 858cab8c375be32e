package types_test

import (
	"slices"
	"sort"
	"strings"

	"smithy/api"
	"smithy/types"
)

// The oracle finds types by another way: terms that are never changed, one table of what variables stand for, and the
// variables of all values about looked for whenever something becomes general. It knows val and fun, one datatype and one
// exception (see prelude), no structures.

// prelude is what the oracle knows beside the basis.
const prelude = "datatype 'p d = A | B of 'p | C of 'p * 'p d exception E of int "

// term is a type: a variable has no name. Records are named by their labels.
type term struct {
	id   int
	name string
	args []term
}

func con(name string, args ...term) term { return term{name: name, args: args} }

func to(a, b term) term { return con("->", a, b) }

func fields(labels []string, args []term) term {
	order := make([]int, len(labels))
	for i := range order {
		order[i] = i
	}
	key := func(s string) string { // a number is shorter than any name then
		if s[0] >= '0' && s[0] <= '9' {
			return strings.Repeat(" ", 70-len(s)) + s
		}
		return s
	}
	sort.Slice(order, func(i, j int) bool { return key(labels[order[i]]) < key(labels[order[j]]) })
	t := term{name: "{"}
	for i, at := range order {
		if i > 0 && labels[order[i-1]] == labels[at] {
			panic("double")
		}
		t.name += labels[at] + ","
		t.args = append(t.args, args[at])
	}
	return t
}

func labelsOf(t term) []string {
	return strings.FieldsFunc(t.name[1:], func(r rune) bool { return r == ',' })
}

func pairOf(a, b term) term { return fields([]string{"1", "2"}, []term{a, b}) }

// scheme is a type with the variables for which there may be any.
type scheme struct {
	vars []int
	t    term
}

type binding struct {
	name string
	scheme
	isCon bool
}

type opUse struct {
	e  *api.Exp
	of term
}

type selUse struct {
	e        *api.Exp
	from, to term
}

type oracle struct {
	next   int
	is     map[int]term
	equal  map[int]bool
	env    []binding
	ops    []opUse
	sels   []selUse
	tyvars map[string]term
	depth  int
	out    []binding
}

func newOracle() *oracle {
	o := &oracle{is: map[int]term{}, equal: map[int]bool{}}
	a, b := o.fresh(), o.fresh()
	o.equal[b.id] = true
	i, truth, text, unit, exn := con("int"), con("bool"), con("string"), con("{"), con("exn")
	list, d := con("list", a), con("d", a)
	add := func(name string, isCon bool, t term) {
		o.env = append(o.env, binding{name, scheme{[]int{a.id, b.id}, t}, isCon})
	}
	add("true", true, truth)
	add("false", true, truth)
	add("nil", true, list)
	add("::", true, to(pairOf(a, list), list))
	add("A", true, d)
	add("B", true, to(a, d))
	add("C", true, to(pairOf(a, d), d))
	add("E", true, to(i, exn))
	add("Div", true, exn)
	add("=", false, to(pairOf(b, b), truth))
	add("ref", false, to(a, con("ref", a)))
	add("!", false, to(con("ref", a), a))
	add(":=", false, to(pairOf(con("ref", a), a), unit))
	add("print", false, to(text, unit))
	add("size", false, to(text, i))
	add("Real.fromInt", false, to(i, con("real")))
	return o
}

func (o *oracle) fresh() term {
	o.next++
	return term{id: o.next}
}

func (o *oracle) full(t term) term {
	if t.name == "" {
		if is, ok := o.is[t.id]; ok {
			return o.full(is)
		}
		return t
	}
	out := term{name: t.name}
	for _, a := range t.args {
		out.args = append(out.args, o.full(a))
	}
	return out
}

func free(t term) []int {
	if t.name == "" {
		return []int{t.id}
	}
	var out []int
	for _, a := range t.args {
		for _, v := range free(a) {
			if !slices.Contains(out, v) {
				out = append(out, v)
			}
		}
	}
	return out
}

func (o *oracle) unify(a, b term) {
	a, b = o.full(a), o.full(b)
	switch {
	case a.name == "" && b.name == "" && a.id == b.id:
	case a.name == "":
		if slices.Contains(free(b), a.id) {
			panic("infinite")
		}
		o.is[a.id] = b
		if o.equal[a.id] {
			o.needEqual(b)
		}
	case b.name == "":
		o.unify(b, a)
	default:
		if a.name != b.name || len(a.args) != len(b.args) {
			panic("unlike")
		}
		for i := range a.args {
			o.unify(a.args[i], b.args[i])
		}
	}
}

func (o *oracle) needEqual(t term) {
	t = o.full(t)
	switch t.name {
	case "":
		o.equal[t.id] = true
	case "real", "exn", "->":
		panic("no equality")
	case "ref", "bytes":
	default:
		for _, a := range t.args {
			o.needEqual(a)
		}
	}
}

func (o *oracle) lookUp(name string) (binding, bool) {
	for i := len(o.env) - 1; i >= 0; i-- {
		if o.env[i].name == name {
			return o.env[i], true
		}
	}
	return binding{}, false
}

func (o *oracle) instance(s scheme) term {
	news := map[int]term{}
	for _, v := range s.vars {
		n := o.fresh()
		if o.equal[v] {
			o.equal[n.id] = true
		}
		news[v] = n
	}
	var put func(t term) term
	put = func(t term) term {
		if n, ok := news[t.id]; ok && t.name == "" {
			return n
		}
		out := term{id: t.id, name: t.name}
		for _, a := range t.args {
			out.args = append(out.args, put(a))
		}
		return out
	}
	return put(o.full(s.t))
}

func (o *oracle) isOperator(name string) bool {
	_, anew := o.lookUp(name)
	return !anew && slices.Contains([]string{"+", "-", "*", "~", "<", "<=", ">", ">="}, name)
}

func (o *oracle) written(t api.Type) term {
	var args []term
	for _, a := range t.Args {
		args = append(args, o.written(a))
	}
	switch t.Kind {
	case api.TypeVar:
		if _, ok := o.tyvars[t.Name]; !ok {
			v := o.fresh()
			if strings.HasPrefix(t.Name, "''") {
				o.equal[v.id] = true
			}
			o.tyvars[t.Name] = v
		}
		return o.tyvars[t.Name]
	case api.TypeArrow:
		return to(args[0], args[1])
	case api.TypeRecord:
		return fields(t.Labels, args)
	}
	if t.Name == "unit" {
		return con("{")
	}
	return con(t.Name, args...)
}

func (o *oracle) exp(e *api.Exp) term {
	kid := func(i int) term { return o.exp(&e.Kids[i]) }
	kids := func() (out []term) {
		for i := range e.Kids {
			out = append(out, kid(i))
		}
		return out
	}
	switch e.Kind {
	case api.ExpInt:
		return con("int")
	case api.ExpReal:
		return con("real")
	case api.ExpText:
		return con("string")
	case api.ExpVar:
		return o.name(e)
	case api.ExpRecord:
		return fields(e.Labels, kids())
	case api.ExpSelect:
		s := selUse{e, o.fresh(), o.fresh()}
		o.sels = append(o.sels, s)
		return to(s.from, s.to)
	case api.ExpApp:
		f, a, r := kid(0), kid(1), o.fresh()
		o.unify(f, to(a, r))
		return r
	case api.ExpFn:
		a, r := o.fresh(), o.fresh()
		o.rules(e.Rules, a, r)
		return to(a, r)
	case api.ExpCase:
		a, r := kid(0), o.fresh()
		o.rules(e.Rules, a, r)
		return r
	case api.ExpHandle:
		r := kid(0)
		o.rules(e.Rules, con("exn"), r)
		return r
	case api.ExpRaise:
		o.unify(kid(0), con("exn"))
		return o.fresh()
	case api.ExpIf:
		o.unify(kid(0), con("bool"))
		r := kid(1)
		o.unify(r, kid(2))
		return r
	case api.ExpWhile:
		o.unify(kid(0), con("bool"))
		kid(1)
		return con("{")
	case api.ExpAnd, api.ExpOr:
		o.unify(kid(0), con("bool"))
		o.unify(kid(1), con("bool"))
		return con("bool")
	case api.ExpTyped:
		r := kid(0)
		o.unify(r, o.written(e.Types[0]))
		return r
	case api.ExpList:
		r := o.fresh()
		for _, t := range kids() {
			o.unify(r, t)
		}
		return con("list", r)
	case api.ExpLet:
		before := o.env
		o.decs(e.Decs)
		r := kid(0)
		o.env = before
		return r
	}
	l := kids() // ExpSeq
	return l[len(l)-1]
}

func (o *oracle) name(e *api.Exp) term {
	if o.isOperator(e.Name) {
		of := o.fresh()
		o.ops = append(o.ops, opUse{e, of})
		switch {
		case e.Name == "~":
			return to(of, of)
		case strings.ContainsAny(e.Name, "<>"):
			return to(pairOf(of, of), con("bool"))
		}
		return to(pairOf(of, of), of)
	}
	b, ok := o.lookUp(e.Name)
	if !ok {
		panic("unknown")
	}
	return o.instance(b.scheme)
}

func (o *oracle) rules(l []api.Rule, from, result term) {
	for i := range l {
		before := o.env
		var vars []binding
		o.unify(o.pat(&l[i].P, &vars), from)
		o.env = slices.Concat(o.env, vars)
		o.unify(o.exp(&l[i].E), result)
		o.env = before
	}
}

func (o *oracle) newVar(vars *[]binding, name string) term {
	for _, b := range *vars {
		if b.name == name {
			panic("twice")
		}
	}
	t := o.fresh()
	*vars = append(*vars, binding{name: name, scheme: scheme{t: t}})
	return t
}

func (o *oracle) pat(p *api.Pat, vars *[]binding) term {
	var kids []term
	b, known := o.lookUp(p.Name)
	isCon := known && b.isCon
	if p.Kind == api.PatAs {
		if isCon {
			panic("a constructor ahead of as")
		}
		t := o.newVar(vars, p.Name)
		o.unify(t, o.pat(&p.Kids[0], vars))
		return t
	}
	for i := range p.Kids {
		kids = append(kids, o.pat(&p.Kids[i], vars))
	}
	switch p.Kind {
	case api.PatWild:
		return o.fresh()
	case api.PatInt:
		return con("int")
	case api.PatText:
		return con("string")
	case api.PatRecord:
		return fields(p.Labels, kids)
	case api.PatTyped:
		o.unify(kids[0], o.written(p.Types[0]))
		return kids[0]
	case api.PatList:
		t := o.fresh()
		for _, k := range kids {
			o.unify(t, k)
		}
		return con("list", t)
	case api.PatVar:
		if !isCon {
			return o.newVar(vars, p.Name)
		}
		p.Kind = api.PatCon
	}
	t := o.instance(b.scheme)
	if !isCon || (t.name == "->") != (len(kids) == 1) {
		panic("no such constructor")
	}
	if len(kids) == 0 {
		return t
	}
	o.unify(t.args[0], kids[0])
	return t.args[1]
}

func (o *oracle) still(e *api.Exp) bool {
	switch e.Kind {
	case api.ExpInt, api.ExpReal, api.ExpText, api.ExpVar, api.ExpFn, api.ExpSelect:
		return true
	case api.ExpRecord, api.ExpList, api.ExpTyped:
		for i := range e.Kids {
			if !o.still(&e.Kids[i]) {
				return false
			}
		}
		return true
	case api.ExpApp:
		b, _ := o.lookUp(e.Kids[0].Name)
		return e.Kids[0].Kind == api.ExpVar && b.isCon && o.still(&e.Kids[1])
	}
	return false
}

// settle resolves selectors, as far as it goes; at the outermost val or fun all of them, and operators.
func (o *oracle) settle() {
	for range len(o.sels) + 1 {
		o.sels = slices.DeleteFunc(o.sels, func(s selUse) bool {
			t := o.full(s.from)
			if t.name == "" {
				return false
			}
			place := slices.Index(labelsOf(t), s.e.Name)
			if t.name[0] != '{' || place < 0 {
				panic("no such label")
			}
			o.unify(s.to, t.args[place])
			s.e.Labels, s.e.N = labelsOf(t), place
			return true
		})
	}
	if o.depth > 1 {
		return
	}
	if len(o.sels) > 0 {
		panic("no record follows")
	}
	for _, u := range o.ops {
		t := o.full(u.of)
		if t.name == "" {
			o.unify(t, con("int"))
			t = con("int")
		}
		may := "int real"
		if strings.ContainsAny(u.e.Name, "<>") {
			may = "int real char string"
		}
		if !slices.Contains(strings.Fields(may), t.name) {
			panic("not for this operator")
		}
		u.e.Name += t.name
	}
	o.ops = nil
}

// general are the variables of a type for which there may be any: those of no value about, nor of what is to be settled.
func (o *oracle) general(t term) []int {
	var about []int
	for _, b := range o.env {
		for _, v := range free(o.full(b.t)) {
			if !slices.Contains(b.vars, v) {
				about = append(about, v)
			}
		}
	}
	for _, u := range o.ops {
		about = append(about, free(o.full(u.of))...)
	}
	for _, s := range o.sels {
		about = append(append(about, free(o.full(s.from))...), free(o.full(s.to))...)
	}
	if o.depth > 1 {
		for _, v := range o.tyvars {
			about = append(about, free(o.full(v))...)
		}
	}
	return slices.DeleteFunc(free(o.full(t)), func(v int) bool { return slices.Contains(about, v) })
}

func (o *oracle) decs(l []api.Dec) {
	for i := range l {
		if o.depth == 0 {
			o.tyvars = map[string]term{}
		}
		o.depth++
		var vars []binding
		isGeneral := true
		switch d := &l[i]; d.Kind {
		case api.DecVal:
			t := o.exp(&d.Exps[0])
			o.unify(o.pat(&d.Pats[0], &vars), t)
			isGeneral = o.still(&d.Exps[0])
		case api.DecFun:
			vars = o.funs(d.Funs)
		default:
			o.depth--
			continue
		}
		o.settle()
		for i := range vars {
			if isGeneral {
				vars[i].vars = o.general(vars[i].t)
			}
		}
		o.depth--
		o.env = slices.Concat(o.env, vars)
		if o.depth == 0 {
			o.out = append(o.out, vars...)
		}
	}
}

func (o *oracle) funs(l []api.Fun) (vars []binding) {
	for _, f := range l {
		if b, _ := o.lookUp(f.Name); b.isCon {
			panic("a constructor")
		}
		o.newVar(&vars, f.Name)
	}
	before := o.env
	o.env = slices.Concat(o.env, vars)
	for i, f := range l {
		for j := range f.Clauses {
			outer := o.env
			var inner []binding
			var args []term
			for k := range f.Clauses[j].Pats {
				args = append(args, o.pat(&f.Clauses[j].Pats[k], &inner))
			}
			o.env = slices.Concat(o.env, inner)
			t := o.exp(&f.Clauses[j].E)
			for _, a := range slices.Backward(args) {
				t = to(a, t)
			}
			o.unify(vars[i].t, t)
			o.env = outer
		}
	}
	o.env = before
	return vars
}

// told are the values, as Infer tells them.
func (o *oracle) told() []api.Named {
	var out []api.Named
	for _, b := range o.out {
		names := map[int]string{}
		var tell func(t term) api.Type
		tell = func(t term) api.Type {
			if t.name == "" {
				if !slices.Contains(b.vars, t.id) {
					return api.Type{Kind: api.TypeRecord}
				}
				if names[t.id] == "" {
					names[t.id] = "'" + string(rune('a'+len(names)))
					if o.equal[t.id] {
						names[t.id] = "'" + names[t.id]
					}
				}
				return api.Type{Kind: api.TypeVar, Name: names[t.id]}
			}
			var args []api.Type
			for _, a := range t.args {
				args = append(args, tell(a))
			}
			switch t.name[0] {
			case '{':
				return api.Type{Kind: api.TypeRecord, Labels: labelsOf(t), Args: args}
			case '-':
				return api.Type{Kind: api.TypeArrow, Args: args}
			}
			return api.Type{Kind: api.TypeCon, Name: t.name, Args: args}
		}
		out = append(out, api.Named{Name: b.name, Type: tell(o.full(b.t))})
	}
	return out
}

// oracleSays is what the oracle tells of declarations, which it writes into.
func oracleSays(l []api.Dec) (lines string) {
	defer func() {
		if x := recover(); x != nil {
			if _, own := x.(string); !own {
				panic(x)
			}
			lines = "ErrType"
		}
	}()
	o := newOracle()
	o.decs(l)
	var out []string
	for _, v := range o.told() {
		out = append(out, v.Name+" : "+types.Text(v.Type))
	}
	return strings.Join(out, "; ")
}

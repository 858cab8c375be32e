package syntax_test

import (
	"math"
	"reflect"
	"strconv"
	"strings"
	"testing"

	"smithy/api"
	"smithy/big"
	"smithy/syntax"
)

// Trees, as the tests write them down.

func numbers(n int) []string {
	var out []string
	for i := range n {
		out = append(out, strconv.Itoa(i+1))
	}
	return out
}

func tvar(name string) api.Type { return api.Type{Kind: api.TypeVar, Name: name} }
func tcon(name string, args ...api.Type) api.Type {
	return api.Type{Kind: api.TypeCon, Name: name, Args: args}
}
func arrow(a, b api.Type) api.Type { return api.Type{Kind: api.TypeArrow, Args: []api.Type{a, b}} }
func product(args ...api.Type) api.Type {
	return api.Type{Kind: api.TypeRecord, Labels: numbers(len(args)), Args: args}
}
func trecord(labels []string, args ...api.Type) api.Type {
	return api.Type{Kind: api.TypeRecord, Labels: labels, Args: args}
}

func wild() api.Pat                 { return api.Pat{Kind: api.PatWild} }
func pvar(name string) api.Pat      { return api.Pat{Kind: api.PatVar, Name: name} }
func pint(n int64) api.Pat          { return api.Pat{Kind: api.PatInt, Int: big.Of(n)} }
func pchar(n int) api.Pat           { return api.Pat{Kind: api.PatChar, N: n} }
func ptext(s string) api.Pat        { return api.Pat{Kind: api.PatText, Text: s} }
func plist(kids ...api.Pat) api.Pat { return api.Pat{Kind: api.PatList, Kids: kids} }
func pcon(name string, kids ...api.Pat) api.Pat {
	return api.Pat{Kind: api.PatCon, Name: name, Kids: kids}
}
func ptuple(kids ...api.Pat) api.Pat {
	return api.Pat{Kind: api.PatRecord, Labels: numbers(len(kids)), Kids: kids}
}
func precord(labels []string, kids ...api.Pat) api.Pat {
	return api.Pat{Kind: api.PatRecord, Labels: labels, Kids: kids}
}
func pop(name string, a, b api.Pat) api.Pat { return pcon(name, ptuple(a, b)) }
func pas(name string, p api.Pat) api.Pat {
	return api.Pat{Kind: api.PatAs, Name: name, Kids: []api.Pat{p}}
}
func ptyped(p api.Pat, t api.Type) api.Pat {
	return api.Pat{Kind: api.PatTyped, Kids: []api.Pat{p}, Types: []api.Type{t}}
}

func num(n int64) api.Exp      { return api.Exp{Kind: api.ExpInt, Int: big.Of(n)} }
func real(x float64) api.Exp   { return api.Exp{Kind: api.ExpReal, Bits: math.Float64bits(x)} }
func char(n int) api.Exp       { return api.Exp{Kind: api.ExpChar, N: n} }
func text(s string) api.Exp    { return api.Exp{Kind: api.ExpText, Text: s} }
func v(name string) api.Exp    { return api.Exp{Kind: api.ExpVar, Name: name} }
func pick(name string) api.Exp { return api.Exp{Kind: api.ExpSelect, Name: name} }

func of(kind int, kids ...api.Exp) api.Exp { return api.Exp{Kind: kind, Kids: kids} }
func app(f, x api.Exp) api.Exp             { return of(api.ExpApp, f, x) }
func tuple(kids ...api.Exp) api.Exp {
	return api.Exp{Kind: api.ExpRecord, Labels: numbers(len(kids)), Kids: kids}
}
func record(labels []string, kids ...api.Exp) api.Exp {
	return api.Exp{Kind: api.ExpRecord, Labels: labels, Kids: kids}
}
func op(name string, a, b api.Exp) api.Exp { return app(v(name), tuple(a, b)) }
func typed(e api.Exp, t api.Type) api.Exp {
	return api.Exp{Kind: api.ExpTyped, Kids: []api.Exp{e}, Types: []api.Type{t}}
}
func rule(p api.Pat, e api.Exp) api.Rule { return api.Rule{P: p, E: e} }
func fn(rules ...api.Rule) api.Exp       { return api.Exp{Kind: api.ExpFn, Rules: rules} }
func cases(e api.Exp, rules ...api.Rule) api.Exp {
	return api.Exp{Kind: api.ExpCase, Kids: []api.Exp{e}, Rules: rules}
}
func handle(e api.Exp, rules ...api.Rule) api.Exp {
	return api.Exp{Kind: api.ExpHandle, Kids: []api.Exp{e}, Rules: rules}
}
func raise(e api.Exp) api.Exp { return of(api.ExpRaise, e) }
func let(e api.Exp, decs ...api.Dec) api.Exp {
	return api.Exp{Kind: api.ExpLet, Kids: []api.Exp{e}, Decs: decs}
}

func val(p api.Pat, e api.Exp) api.Dec {
	return api.Dec{Kind: api.DecVal, Pats: []api.Pat{p}, Exps: []api.Exp{e}}
}
func fun(funs ...api.Fun) api.Dec { return api.Dec{Kind: api.DecFun, Funs: funs} }
func clauses(name string, list ...api.Clause) api.Fun {
	return api.Fun{Name: name, Many: len(list[0].Pats), Clauses: list}
}
func clause(e api.Exp, pats ...api.Pat) api.Clause { return api.Clause{Pats: pats, E: e} }
func con(name string, types ...api.Type) api.Con   { return api.Con{Name: name, Types: types} }
func data(vars []string, name string, cons ...api.Con) api.Data {
	return api.Data{Vars: vars, Name: name, Cons: cons}
}
func datatype(datas ...api.Data) api.Dec { return api.Dec{Kind: api.DecData, Datas: datas} }
func typeDec(vars []string, name string, t api.Type) api.Dec {
	return api.Dec{Kind: api.DecType, Datas: []api.Data{data(vars, name)}, Types: []api.Type{t}}
}
func exn(name string, types ...api.Type) api.Dec {
	return api.Dec{Kind: api.DecExn, Name: name, Types: types}
}
func infix(n int, names ...string) api.Dec {
	return api.Dec{Kind: api.DecInfix, N: n, Names: names}
}
func infixr(n int, names ...string) api.Dec {
	return api.Dec{Kind: api.DecInfix, N: n, Names: names, Right: true}
}
func nonfix(names ...string) api.Dec { return api.Dec{Kind: api.DecNonfix, Names: names} }
func structure(name string, decs ...api.Dec) api.Dec {
	return api.Dec{Kind: api.DecStruct, Name: name, Decs: decs}
}
func alias(name, long string) api.Dec {
	return api.Dec{Kind: api.DecStruct, Name: name, Names: []string{long}}
}
func through(d api.Dec, s api.Sig, opaque bool) api.Dec {
	d.Sigs, d.Opaque = []api.Sig{s}, opaque
	return d
}
func signature(name string, specs ...api.Spec) api.Dec {
	return api.Dec{Kind: api.DecSig, Name: name, Specs: specs}
}
func specVal(name string, t api.Type) api.Spec {
	return api.Spec{Kind: api.SpecVal, Name: name, Types: []api.Type{t}}
}
func specType(vars []string, name string, types ...api.Type) api.Spec {
	return api.Spec{Kind: api.SpecType, Data: data(vars, name), Types: types}
}
func specData(d api.Data) api.Spec { return api.Spec{Kind: api.SpecData, Data: d} }
func specExn(name string, types ...api.Type) api.Spec {
	return api.Spec{Kind: api.SpecExn, Name: name, Types: types}
}

// reads holds what a text is read as against trees, field by field (empty lists are nil ones), and what is printed of
// it, too.
func reads(t *testing.T, source string, want ...api.Dec) {
	t.Helper()
	got, m := syntax.Parse(source)
	if m != (api.Mishap{}) || !reflect.DeepEqual(got, want) {
		t.Errorf("%.200q: %v\n got %+v\nwant %+v", source, m, got, want)
		return
	}
	printed := syntax.Print(got)
	again, m := syntax.Parse(printed)
	if m != (api.Mishap{}) || !reflect.DeepEqual(again, want) || !syntax.Same(got, again) {
		t.Errorf("%.200q, printed as %.200q: %v\n got %+v\nwant %+v", source, printed, m, again, want)
	}
}

func readsExp(t *testing.T, source string, want api.Exp) {
	t.Helper()
	reads(t, "val it = "+source, val(pvar("it"), want))
}

func readsPat(t *testing.T, source string, want api.Pat) {
	t.Helper()
	reads(t, "val "+source+" = 0", val(want, num(0)))
}

func readsType(t *testing.T, source string, want api.Type) {
	t.Helper()
	reads(t, "type t = "+source, typeDec(nil, "t", want))
}

func refused(t *testing.T, source string, code api.Errno, at int) {
	t.Helper()
	if got, m := syntax.Parse(source); got != nil || m != (api.Mishap{Code: code, At: at}) {
		t.Errorf("%.200q (%d bytes): %v, %d declarations; want %v", source, len(source), m, len(got), api.Mishap{Code: code, At: at})
	}
}

// realWord is a real as a word, with as many digits as it takes.
func realWord(x float64) string {
	sign := ""
	if math.Signbit(x) {
		sign, x = "~", -x
	}
	if math.IsInf(x, 0) {
		return sign + "9e999"
	}
	return sign + strings.Replace(strings.Replace(strconv.FormatFloat(x, 'e', 20, 64), "e-", "e~", 1), "e+", "e", 1)
}

package syntax_test

import (
	"math"
	"math/rand"
	"reflect"
	"strconv"
	"strings"
	"testing"

	"smithy/api"
	"smithy/big"
	"smithy/syntax"
)

// maker makes trees at random, as Parse may answer them.
type maker struct{ *rand.Rand }

func (m maker) one(list string) string {
	words := strings.Fields(list)
	return words[m.Intn(len(words))]
}

func (m maker) short() string { return m.one("a b x1 y' o div mod e A_") }
func (m maker) long() string  { return m.one("S.a A.B.c' T.o") }
func (m maker) vid() string   { return m.one("a b y' o div + - * :: = <> ++ ** ~ ! := ## |> e A_") }
func (m maker) label() string { return m.one("a o div 1 2 3 10 99 z'") }

func (m maker) labels(n int) []string {
	if m.Intn(2) == 0 {
		return numbers(n)
	}
	var out []string
	for range n {
		out = append(out, m.label())
	}
	return out
}

func (m maker) few() int { return m.Intn(4) }

func rowOf[T any](n int, one func() T) []T {
	var out []T
	for range n {
		out = append(out, one())
	}
	return out
}

func (m maker) integer() api.Int {
	n := big.Of(m.Int63() >> m.Intn(64))
	if m.Intn(10) == 0 {
		n = big.Mul(n, n)
	}
	if m.Intn(2) == 0 {
		n = big.Neg(n)
	}
	return n
}

func (m maker) bytes() string {
	return string(rowOf(m.Intn(5), func() byte { return byte(m.Intn(256) >> m.Intn(3)) }))
}

func (m maker) bits() uint64 {
	for {
		x := math.Float64frombits(m.Uint64())
		if m.Intn(2) == 0 {
			x = float64(m.Intn(100000)-50000) / math.Pow10(m.Intn(9))
		}
		if !math.IsNaN(x) {
			return math.Float64bits(x)
		}
	}
}

func (m maker) ty(depth int) api.Type {
	inner := func() api.Type { return m.ty(depth - 1) }
	switch k := m.Intn(8); {
	case depth == 0 && k < 3:
		return tvar(m.one("'a ''b 'x1"))
	case depth == 0:
		return tcon(m.one("int div o S.t"))
	case k < 3:
		return tcon(m.one("int div o S.t"), rowOf(m.few(), inner)...)
	case k < 5:
		return arrow(inner(), inner())
	}
	n := m.few()
	return trecord(m.labels(n), rowOf(n, inner)...)
}

func (m maker) pat(depth int) api.Pat {
	inner := func() api.Pat { return m.pat(depth - 1) }
	if depth > 0 {
		switch m.Intn(7) {
		case 0, 1:
			return pcon(m.one(m.vid()+" "+m.long()), inner())
		case 2:
			return pop(m.vid(), inner(), inner())
		case 3:
			n := m.few()
			return precord(m.labels(n), rowOf(n, inner)...)
		case 4:
			return pas(m.short(), inner())
		case 5:
			return ptyped(inner(), m.ty(depth-1))
		}
		return plist(rowOf(m.few(), inner)...)
	}
	switch m.Intn(6) {
	case 0:
		return wild()
	case 1:
		return api.Pat{Kind: api.PatInt, Int: m.integer()}
	case 2:
		return pchar(m.Intn(256))
	case 3:
		return ptext(m.bytes())
	case 4:
		return pcon(m.long())
	}
	return pvar(m.vid())
}

func (m maker) leaf() api.Exp {
	switch m.Intn(8) {
	case 0:
		return api.Exp{Kind: api.ExpInt, Int: m.integer()}
	case 1:
		return api.Exp{Kind: api.ExpReal, Bits: m.bits()}
	case 2:
		return char(m.Intn(256))
	case 3:
		return text(m.bytes())
	case 4:
		return pick(m.label())
	case 5:
		return v(m.long())
	}
	return v(m.vid())
}

func (m maker) exp(depth int) api.Exp {
	if depth == 0 {
		return m.leaf()
	}
	inner := func() api.Exp { return m.exp(m.Intn(depth)) }
	rules := func() []api.Rule {
		return rowOf(1+m.few(), func() api.Rule { return rule(m.pat(m.Intn(depth)), inner()) })
	}
	n := m.few()
	switch m.Intn(18) {
	case 0:
		return record(m.labels(n), rowOf(n, inner)...)
	case 1, 2:
		return app(inner(), inner())
	case 3:
		return fn(rules()...)
	case 4:
		return cases(inner(), rules()...)
	case 5:
		return of(api.ExpIf, inner(), inner(), inner())
	case 6:
		return of(api.ExpWhile, inner(), inner())
	case 7, 8:
		return let(inner(), rowOf(n, func() api.Dec { return m.dec(m.Intn(depth), true) })...)
	case 9:
		return of(api.ExpSeq, rowOf(2+n, inner)...)
	case 10:
		return raise(inner())
	case 11:
		return handle(inner(), rules()...)
	case 12:
		return of(api.ExpAnd, inner(), inner())
	case 13:
		return of(api.ExpOr, inner(), inner())
	case 14:
		return typed(inner(), m.ty(m.Intn(depth)))
	case 15:
		return of(api.ExpList, rowOf(n, inner)...)
	}
	return op(m.vid(), inner(), inner())
}

func (m maker) data(depth int) api.Data {
	return data(m.vars(), m.short(), rowOf(1+m.few(), func() api.Con { return con(m.vid(), m.maybe(depth)...) })...)
}

func (m maker) vars() []string {
	return rowOf(m.Intn(3), func() string { return m.one("'a ''b") })
}

// maybe is a type, or none.
func (m maker) maybe(depth int) []api.Type {
	return rowOf(m.Intn(2), func() api.Type { return m.ty(depth) })
}

func (m maker) fun(depth int) api.Fun {
	many := 1 + m.Intn(2)
	return clauses(m.vid(), rowOf(1+m.Intn(3), func() api.Clause {
		return clause(m.exp(depth), rowOf(many, func() api.Pat { return m.pat(m.Intn(depth + 1)) })...)
	})...)
}

func (m maker) specs(depth int) []api.Spec {
	return rowOf(m.few(), func() api.Spec {
		switch m.Intn(4) {
		case 0:
			return specVal(m.vid(), m.ty(depth))
		case 1:
			return specType(m.vars(), m.short(), m.maybe(depth)...)
		case 2:
			return specData(m.data(depth))
		}
		return specExn(m.short(), m.maybe(depth)...)
	})
}

func (m maker) structure(depth int) api.Dec {
	d := alias(m.short(), m.one("S A.B o"))
	if m.Intn(4) > 0 && depth > 0 {
		d = structure(m.short(), rowOf(m.few(), func() api.Dec { return m.dec(depth-1, false) })...)
	}
	switch m.Intn(3) {
	case 0:
		return through(d, api.Sig{Name: m.short()}, m.Intn(2) == 0)
	case 1:
		return through(d, api.Sig{Specs: m.specs(depth)}, m.Intn(2) == 0)
	}
	return d
}

func (m maker) dec(depth int, inLet bool) api.Dec {
	names := func() []string { return rowOf(1+m.few(), m.vid) }
	switch m.Intn(13) {
	case 0:
		return fun(rowOf(1+m.Intn(2), func() api.Fun { return m.fun(depth) })...)
	case 1:
		return datatype(rowOf(1+m.Intn(2), func() api.Data { return m.data(depth) })...)
	case 2:
		return typeDec(m.vars(), m.short(), m.ty(depth))
	case 3:
		return exn(m.short(), m.maybe(depth)...)
	case 4, 5:
		return infix(m.Intn(10), names()...)
	case 6:
		return infixr(m.Intn(10), names()...)
	case 7:
		return nonfix(names()...)
	case 8, 9:
		if !inLet {
			return m.structure(depth)
		}
	case 10:
		if !inLet {
			return signature(m.short(), m.specs(depth)...)
		}
	}
	return val(m.pat(m.Intn(depth+1)), m.exp(depth))
}

// scribe writes trees with all parentheses that may be, op ahead of all short names, and whatever counts nothing.
type scribe struct{ maker }

func (s scribe) blank() string {
	return []string{" ", " ", " ", "\n", "\t ", " (* val \" (* *) *) ", "\r"}[s.Intn(7)]
}

func (s scribe) words(list ...string) string { return strings.Join(list, s.blank()) }

// closed is words in one or more parentheses.
func (s scribe) closed(list ...string) string {
	out := s.words(append(append([]string{"("}, list...), ")")...)
	if s.Intn(4) == 0 {
		out = s.words("(", out, ")")
	}
	return out
}

// listed is things with a word between each two.
func listed[T any](s scribe, between string, l []T, one func(T) string) string {
	var out []string
	for _, x := range l {
		out = append(out, one(x))
	}
	return strings.Join(out, s.blank()+between+s.blank())
}

// loose is things one behind the other, with semicolons at random.
func loose[T any](s scribe, l []T, one func(T) string) string {
	out := s.blank()
	for _, x := range l {
		out += one(x) + s.blank() + strings.Repeat("; ", s.Intn(3))
	}
	return out
}

func fieldsOf[T any](s scribe, labels []string, between string, l []T, one func(T) string) string {
	i := -1
	return s.words("{", listed(s, ",", l, func(x T) string {
		i++
		return s.words(labels[i], between, one(x))
	}), "}")
}

func (s scribe) ref(name string) string {
	if strings.Contains(name, ".") {
		return name
	}
	return s.words("op", name)
}

func (s scribe) quoted(text string) string {
	out := `"`
	for _, b := range []byte(text) {
		if b >= 32 && b <= 126 && b != '"' && b != '\\' {
			out += string(rune(b))
		} else {
			out += `\` + ("00" + strconv.Itoa(int(b)))[len(strconv.Itoa(int(b)))-1:]
		}
	}
	return out + `"`
}

func (s scribe) ty(t api.Type) string {
	switch t.Kind {
	case api.TypeVar:
		return t.Name
	case api.TypeCon:
		if len(t.Args) == 0 {
			return t.Name
		}
		return s.closed(s.words("(", listed(s, ",", t.Args, s.ty), ")"), t.Name)
	case api.TypeArrow:
		return s.closed(s.ty(t.Args[0]), "->", s.ty(t.Args[1]))
	}
	return fieldsOf(s, t.Labels, ":", t.Args, s.ty)
}

func (s scribe) tyBehind(word string, types []api.Type) string {
	return listed(s, "", types, func(t api.Type) string { return s.words(word, s.ty(t)) })
}

func (s scribe) pat(p api.Pat) string {
	switch p.Kind {
	case api.PatWild:
		return "_"
	case api.PatVar:
		return s.ref(p.Name)
	case api.PatInt:
		return big.Text(p.Int)
	case api.PatChar:
		return "#" + s.quoted(string([]byte{byte(p.N)}))
	case api.PatText:
		return s.quoted(p.Text)
	case api.PatCon:
		return s.closed(s.ref(p.Name), listed(s, "", p.Kids, s.pat))
	case api.PatRecord:
		return fieldsOf(s, p.Labels, "=", p.Kids, s.pat)
	case api.PatAs:
		return s.closed(p.Name, "as", s.pat(p.Kids[0]))
	case api.PatTyped:
		return s.closed(s.pat(p.Kids[0]), s.tyBehind(":", p.Types))
	}
	return s.words("[", listed(s, ",", p.Kids, s.pat), "]")
}

func (s scribe) match(rules []api.Rule) string {
	return listed(s, "|", rules, func(r api.Rule) string { return s.words(s.pat(r.P), "=>", s.exp(r.E)) })
}

func (s scribe) exp(e api.Exp) string {
	kid := func(i int) string { return s.exp(e.Kids[i]) }
	switch e.Kind {
	case api.ExpInt:
		return big.Text(e.Int)
	case api.ExpReal:
		return realWord(math.Float64frombits(e.Bits))
	case api.ExpChar:
		return "#" + s.quoted(string([]byte{byte(e.N)}))
	case api.ExpText:
		return s.quoted(e.Text)
	case api.ExpVar:
		return s.ref(e.Name)
	case api.ExpRecord:
		return fieldsOf(s, e.Labels, "=", e.Kids, s.exp)
	case api.ExpSelect:
		return s.words("#", e.Name)
	case api.ExpApp:
		return s.closed(kid(0), kid(1))
	case api.ExpFn:
		return s.closed("fn", s.match(e.Rules))
	case api.ExpCase:
		return s.closed("case", kid(0), "of", s.match(e.Rules))
	case api.ExpIf:
		return s.closed("if", kid(0), "then", kid(1), "else", kid(2))
	case api.ExpWhile:
		return s.closed("while", kid(0), "do", kid(1))
	case api.ExpLet:
		return s.words("let", loose(s, e.Decs, s.dec), "in", kid(0), "end")
	case api.ExpSeq:
		return s.closed(listed(s, ";", e.Kids, s.exp))
	case api.ExpRaise:
		return s.closed("raise", kid(0))
	case api.ExpHandle:
		return s.closed(kid(0), "handle", s.match(e.Rules))
	case api.ExpAnd:
		return s.closed(kid(0), "andalso", kid(1))
	case api.ExpOr:
		return s.closed(kid(0), "orelse", kid(1))
	case api.ExpTyped:
		return s.closed(kid(0), s.tyBehind(":", e.Types))
	}
	return s.words("[", listed(s, ",", e.Kids, s.exp), "]")
}

func (s scribe) data(d api.Data) string {
	return s.words(s.typeName(d), "=", listed(s, "|", d.Cons, func(c api.Con) string {
		return s.words("op", c.Name, s.tyBehind("of", c.Types))
	}))
}

func (s scribe) typeName(d api.Data) string {
	if len(d.Vars) == 0 {
		return d.Name
	}
	return s.words("(", listed(s, ",", d.Vars, func(x string) string { return x }), ")", d.Name)
}

func (s scribe) spec(x api.Spec) string {
	switch x.Kind {
	case api.SpecVal:
		return s.words("val", x.Name, s.tyBehind(":", x.Types))
	case api.SpecType:
		return s.words("type", s.typeName(x.Data), s.tyBehind("=", x.Types))
	case api.SpecData:
		return s.words("datatype", s.data(x.Data))
	}
	return s.words("exception", x.Name, s.tyBehind("of", x.Types))
}

func (s scribe) fun(f api.Fun) string {
	return listed(s, "|", f.Clauses, func(c api.Clause) string {
		return s.words("op", f.Name, listed(s, "", c.Pats, s.pat), "=", s.exp(c.E))
	})
}

func (s scribe) structure(d api.Dec) string {
	out := s.words("structure", d.Name)
	for _, x := range d.Sigs {
		out = s.words(out, map[bool]string{false: ":", true: ":>"}[d.Opaque])
		if x.Name != "" {
			out = s.words(out, x.Name)
		} else {
			out = s.words(out, "sig", loose(s, x.Specs, s.spec), "end")
		}
	}
	if len(d.Names) > 0 {
		return s.words(out, "=", d.Names[0])
	}
	return s.words(out, "=", "struct", loose(s, d.Decs, s.dec), "end")
}

func (s scribe) dec(d api.Dec) string {
	switch d.Kind {
	case api.DecVal:
		return s.words("val", s.pat(d.Pats[0]), "=", s.exp(d.Exps[0]))
	case api.DecFun:
		return s.words("fun", listed(s, "and", d.Funs, s.fun))
	case api.DecData:
		return s.words("datatype", listed(s, "and", d.Datas, s.data))
	case api.DecType:
		return s.words("type", s.typeName(d.Datas[0]), s.tyBehind("=", d.Types))
	case api.DecExn:
		return s.words("exception", d.Name, s.tyBehind("of", d.Types))
	case api.DecStruct:
		return s.structure(d)
	case api.DecSig:
		return s.words("signature", d.Name, "=", "sig", loose(s, d.Specs, s.spec), "end")
	case api.DecNonfix:
		return s.words("nonfix", strings.Join(d.Names, " "))
	}
	return s.words(map[bool]string{false: "infix", true: "infixr"}[d.Right], strconv.Itoa(d.N), strings.Join(d.Names, " "))
}

// P4.1, P4.2, P4.4: trees at random, written with all that counts nothing, are read as they are; and so is what is
// printed of them.
func TestRandomTrees(t *testing.T) {
	m := maker{rand.New(rand.NewSource(1))}
	for i := range 4000 {
		want := rowOf(1+m.few(), func() api.Dec { return m.dec(m.Intn(5), false) })
		source := loose(scribe{m}, want, scribe{m}.dec)
		if len(source) > api.MaxSource {
			continue
		}
		got, mishap := syntax.Parse(source)
		if mishap.Code != api.OK || !reflect.DeepEqual(got, want) {
			t.Fatalf("%d: %v\n%s\n got %+v\nwant %+v", i, mishap, source, got, want)
		}
		for _, printed := range []string{syntax.Print(got), syntax.PrintTight(got)} {
			again, mishap := syntax.Parse(printed)
			if mishap.Code != api.OK || !reflect.DeepEqual(again, want) || !syntax.Same(again, got) {
				t.Fatalf("%d: %v\n%s\n got %+v\nwant %+v", i, mishap, printed, again, want)
			}
			if len(printed) > len(source) {
				t.Fatalf("%d: %d bytes for %d\n%s\n%s", i, len(printed), len(source), source, printed)
			}
		}
	}
}

// link is an operator between operands, with its level and side.
type link struct {
	level int
	right bool
}

// wrongLink is the first operator that stands behind one of its level and of the other side with no lower one between
// them, by the document's words; -1, if there is none.
func wrongLink(l []link) int {
	for j := range l {
		for i := j - 1; i >= 0 && l[i].level >= l[j].level; i-- {
			if l[i].level == l[j].level && l[i].right != l[j].right {
				return j
			}
		}
	}
	return -1
}

// held is the tree of operators: the lowest one holds what stands to its sides, of several the last one, or, to the
// right, the first one.
func held(l []link, first int) string {
	if len(l) == 0 {
		return "x" + strconv.Itoa(first)
	}
	at := 0
	for i, x := range l {
		if x.level < l[at].level || x.level == l[at].level && !x.right {
			at = i
		}
	}
	return "(" + held(l[:at], first) + " " + strconv.Itoa(first+at) + " " + held(l[at+1:], first+at+1) + ")"
}

func heldExp(e api.Exp) string {
	if e.Kind == api.ExpVar {
		return e.Name
	}
	pair := e.Kids[1].Kids
	return "(" + heldExp(pair[0]) + " " + e.Kids[0].Name[1:] + " " + heldExp(pair[1]) + ")"
}

func heldPat(p api.Pat) string {
	if p.Kind == api.PatVar {
		return p.Name
	}
	pair := p.Kids[0].Kids
	return "(" + heldPat(pair[0]) + " " + p.Name[1:] + " " + heldPat(pair[1]) + ")"
}

// P4.1: operators of all levels and sides, in expressions and in patterns, held against the document's words.
func TestRandomOperators(t *testing.T) {
	random := rand.New(rand.NewSource(2))
	for range 20000 {
		links := rowOf(random.Intn(7), func() link { return link{random.Intn(4), random.Intn(8) == 0} })
		declared, chain, places := "", "x0", []int{}
		for i, x := range links {
			n := strconv.Itoa(i)
			declared += map[bool]string{false: "infix ", true: "infixr "}[x.right] + strconv.Itoa(x.level) + " f" + n + " "
			places = append(places, len(chain)+1)
			chain += " f" + n + " x" + strconv.Itoa(i+1)
		}
		for _, about := range []struct{ before, after string }{{"val it = ", ""}, {"val ", " = it"}} {
			source := declared + about.before + chain + about.after
			if wrong := wrongLink(links); wrong >= 0 {
				refused(t, source, api.ErrFix, len(declared+about.before)+places[wrong])
				continue
			}
			l, m := syntax.Parse(source)
			if m.Code != api.OK {
				t.Fatalf("%q: %v", source, m)
			}
			d := l[len(l)-1]
			got := heldPat(d.Pats[0])
			if about.after == "" {
				got = heldExp(d.Exps[0])
			}
			if want := held(links, 0); got != want {
				t.Fatalf("%q: %s, want %s", source, got, want)
			}
			if printed := syntax.Print(l); !strings.HasSuffix(printed, about.before+chain+about.after+"\n") {
				t.Fatalf("%q: printed as %q", source, printed)
			}
		}
	}
}

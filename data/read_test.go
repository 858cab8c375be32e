package data_test

import (
	"math"
	"slices"
	"strconv"
	"strings"
	"testing"

	"smithy/api"
	"smithy/big"
	"smithy/flow"
)

// Programs are written as texts, one for each function: its body, and ahead of that, if it has parameters, how many, and `:`.
// It has as many locals as it takes.
//
// Atoms: v3 a local, 7 and ~7 integers, #7 a small number, %1.5 a real, "a" a text, !2 a built-in exception's cell, $a an atom
// that is told beside the text. Nodes: `ret A`, `raise A`, `let 3 = OP ; ..`, `if A { .. } { .. }`,
// `switch A 1 { .. } 2 { .. } { .. }`, `tail f1 A ..`, `go A A`, `try { .. } catch 3 { .. } then 4 ; ..`. Operations:
// `atom A`, `call f1 A ..`, `apply A A`, `block 3 A ..`, `field 1 A`, `closure f1 A ..`, `capture 0 A`, `patch 0 A A`, and
// `add A A` and the other primitives.
type reader struct {
	words  []string
	told   map[string]api.Atom
	locals int
}

func program(t testing.TB, funs ...string) api.Program {
	t.Helper()
	return programWith(t, nil, funs...)
}

func programWith(t testing.TB, told map[string]api.Atom, funs ...string) api.Program {
	t.Helper()
	var p api.Program
	for _, text := range funs {
		params := 0
		if first, rest, is := strings.Cut(text, ": "); is && first != "" && strings.Trim(first, "0123456789") == "" {
			params, text = count(first), rest
		}
		r := &reader{words(text), told, params}
		body := r.flow()
		if len(r.words) > 0 {
			t.Fatalf("%s: %v is left", text, r.words)
		}
		p.Funs = append(p.Funs, api.Func{Params: params, Locals: r.locals, Body: body})
	}
	return p
}

// words are those of a text: signs, texts in quotes, and what stands between.
func words(text string) []string {
	var out []string
	for text = strings.TrimSpace(text); text != ""; text = strings.TrimSpace(text) {
		n := 1
		switch {
		case text[0] == '"':
			n = 2 + strings.IndexByte(text[1:], '"')
		case !strings.ContainsRune("{};", rune(text[0])):
			n = strings.IndexAny(text+" ", " \n\t{};\"")
		}
		out, text = append(out, text[:n]), text[n:]
	}
	return out
}

func count(w string) int {
	n, err := strconv.Atoi(w)
	if err != nil {
		panic(w)
	}
	return n
}

func (r *reader) next() string {
	w := r.words[0]
	r.words = r.words[1:]
	return w
}

func (r *reader) number() int { return count(r.next()) }

func (r *reader) local() int {
	v := r.number()
	r.locals = max(r.locals, v+1)
	return v
}

func (r *reader) expect(w string) {
	if got := r.next(); got != w {
		panic(got + " where " + w + " should be")
	}
}

// fun is a function's number.
func (r *reader) fun() int { return count(strings.TrimPrefix(r.next(), "f")) }

// block is a body in braces.
func (r *reader) block() api.Flow {
	r.expect("{")
	f := r.flow()
	r.expect("}")
	return f
}

func (r *reader) flow() api.Flow {
	switch w := r.next(); w {
	case "ret":
		return api.Flow{Kind: api.FlowRet, A: r.atom()}
	case "raise":
		return api.Flow{Kind: api.FlowRaise, A: r.atom()}
	case "let":
		f := api.Flow{Kind: api.FlowLet, V: r.local()}
		r.expect("=")
		f.Op = r.op()
		r.expect(";")
		f.Kids = []api.Flow{r.flow()}
		return f
	case "if":
		return api.Flow{Kind: api.FlowIf, A: r.atom(), Kids: []api.Flow{r.block(), r.block()}}
	case "switch":
		f := api.Flow{Kind: api.FlowSwitch, A: r.atom()}
		for r.words[0] != "{" {
			f.Tags, f.Kids = append(f.Tags, r.number()), append(f.Kids, r.block())
		}
		f.Kids = append(f.Kids, r.block())
		return f
	case "tail":
		return api.Flow{Kind: api.FlowTail, F: r.fun(), Args: r.atoms()}
	case "go":
		return api.Flow{Kind: api.FlowGo, A: r.atom(), Args: r.atoms()}
	case "try":
		f := api.Flow{Kind: api.FlowTry, Kids: []api.Flow{r.block()}}
		r.expect("catch")
		f.V = r.local()
		f.Kids = append(f.Kids, r.block())
		r.expect("then")
		f.W = r.local()
		r.expect(";")
		f.Kids = append(f.Kids, r.flow())
		return f
	default:
		panic(w)
	}
}

func (r *reader) op() api.Op {
	w := r.next()
	kinds := map[string]int{"atom": api.OpAtom, "call": api.OpCall, "apply": api.OpApply, "block": api.OpBlock, "field": api.OpField, "closure": api.OpClosure, "capture": api.OpCapture, "patch": api.OpPatch}
	o := api.Op{Kind: kinds[w]}
	switch o.Kind {
	case 0:
		o.Kind, o.Name = api.OpPrim, w
	case api.OpCall, api.OpClosure:
		o.F = r.fun()
	case api.OpBlock, api.OpField, api.OpCapture, api.OpPatch:
		o.N = r.number()
	}
	o.Args = r.atoms()
	return o
}

// atoms are those up to the end of a node.
func (r *reader) atoms() []api.Atom {
	var l []api.Atom
	for len(r.words) > 0 && r.words[0] != ";" && r.words[0] != "}" {
		l = append(l, r.atom())
	}
	return l
}

func (r *reader) atom() api.Atom {
	w := r.next()
	switch w[0] {
	case 'v':
		return api.Atom{Kind: api.AtomVar, V: count(w[1:])}
	case '#':
		return api.Atom{Kind: api.AtomSmall, V: count(w[1:])}
	case '!':
		return api.Atom{Kind: api.AtomExn, V: count(w[1:])}
	case '"':
		return api.Atom{Kind: api.AtomText, Text: w[1 : len(w)-1]}
	case '%':
		f, err := strconv.ParseFloat(w[1:], 64)
		if err != nil {
			panic(w)
		}
		return api.Atom{Kind: api.AtomReal, Bits: math.Float64bits(f)}
	case '$':
		a, is := r.told[w[1:]]
		if !is {
			panic(w)
		}
		return a
	}
	a, e := big.Parse(w)
	if e != api.OK {
		panic(w)
	}
	return api.Atom{Kind: api.AtomInt, Int: a}
}

// shown is a program as the texts that it is read from.
func shown(p api.Program) string {
	var out []string
	for _, f := range p.Funs {
		out = append(out, strconv.Itoa(f.Params)+": "+shownFlow(f.Body))
	}
	return strings.Join(out, "\n")
}

func shownFlow(f api.Flow) string {
	block := func(i int) string { return " { " + shownFlow(f.Kids[i]) + " }" }
	switch f.Kind {
	case api.FlowRet:
		return "ret" + shownAtoms(f.A)
	case api.FlowRaise:
		return "raise" + shownAtoms(f.A)
	case api.FlowLet:
		return "let " + strconv.Itoa(f.V) + " = " + shownOp(f.Op) + "; " + shownFlow(f.Kids[0])
	case api.FlowIf:
		return "if" + shownAtoms(f.A) + block(0) + block(1)
	case api.FlowSwitch:
		out := "switch" + shownAtoms(f.A)
		for i, tag := range f.Tags {
			out += " " + strconv.Itoa(tag) + block(i)
		}
		return out + block(len(f.Tags))
	case api.FlowTail:
		return "tail f" + strconv.Itoa(f.F) + shownAtoms(f.Args...)
	case api.FlowGo:
		return "go" + shownAtoms(f.A) + shownAtoms(f.Args...)
	}
	return "try" + block(0) + " catch " + strconv.Itoa(f.V) + block(1) + " then " + strconv.Itoa(f.W) + "; " + shownFlow(f.Kids[2])
}

func shownOp(o api.Op) string {
	names := []string{api.OpAtom: "atom", api.OpPrim: o.Name, api.OpCall: "call f" + strconv.Itoa(o.F), api.OpApply: "apply", api.OpBlock: "block " + strconv.Itoa(o.N), api.OpField: "field " + strconv.Itoa(o.N), api.OpClosure: "closure f" + strconv.Itoa(o.F), api.OpCapture: "capture " + strconv.Itoa(o.N), api.OpPatch: "patch " + strconv.Itoa(o.N)}
	return names[o.Kind] + shownAtoms(o.Args...)
}

func shownAtoms(l ...api.Atom) string {
	out := ""
	for _, a := range l {
		switch a.Kind {
		case api.AtomVar:
			out += " v" + strconv.Itoa(a.V)
		case api.AtomInt:
			out += " " + big.Text(a.Int)
		case api.AtomSmall:
			out += " #" + strconv.Itoa(a.V)
		case api.AtomText:
			out += ` "` + a.Text + `"`
		case api.AtomReal:
			out += " %" + strconv.FormatFloat(math.Float64frombits(a.Bits), 'g', -1, 64)
		case api.AtomExn:
			out += " !" + strconv.Itoa(a.V)
		}
	}
	return out
}

// What is read is what is shown.
func TestRead(t *testing.T) {
	texts := []string{
		`0: let 0 = closure f1 ~7 "a" %1.5 !2 #9; let 1 = patch 0 v0 v0; try { go v0 1 } catch 1 { tail f2 v1 } then 2; if #1 { ret v2 } { raise v0 }`,
		`2: let 2 = capture 3 v0; let 3 = apply v0 v1; let 4 = call f2 v3; let 5 = block 7; let 5 = field 0 v5; ret v5`,
		`1: switch v0 1 { ret 1 } 5 { ret 2 } { let 1 = atom v0; let 2 = substring v1 0 2; ret v2 }`,
	}
	p := program(t, texts...)
	if got := shown(p); got != strings.Join(texts, "\n") {
		t.Error(got)
	}
	if got := []int{p.Funs[0].Locals, p.Funs[1].Locals, p.Funs[2].Locals}; !slices.Equal(got, []int{3, 6, 3}) || flow.Check(p) != api.OK {
		t.Error(got)
	}
}

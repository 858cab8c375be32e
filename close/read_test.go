package close_test

import (
	"math"
	"strconv"
	"strings"
	"testing"

	"smithy/api"
	"smithy/big"
	"smithy/prim"
)

// Terms are written as texts: 7 and ~7 integers, #7 a small number, %1.5 a real, "a" a text, !2 a built-in exception's cell,
// x a name, [3 a b] a block of tag 3; (fn x a), (let x a b), (rec (f a) (g b) c), (field 2 a), (if a b c),
// (switch a 1: b 2: c d), (raise a), (handle a x b), (case a (| shape b) .. c), (add a b) and other primitives; (a b) else is an
// application. Shapes: _ and x, 7, "a", #1/2 (N 1, Span 2), [1/2 shape ..], {cell shape}, and x@ ahead of one with a name.
// $a is a term that is told beside the text.
type reader struct {
	words []string
	prims map[string]prim.Primitive
	told  map[string]api.Core
}

func term(t testing.TB, text string) api.Core {
	t.Helper()
	return termWith(t, text, nil)
}

func termWith(t testing.TB, text string, told map[string]api.Core) api.Core {
	t.Helper()
	r := &reader{words(text), prim.Primitives(), told}
	c := r.term()
	if len(r.words) > 0 {
		t.Fatalf("%s: %v is left", text, r.words)
	}
	return c
}

// words are those of a text: brackets, texts, and what stands between.
func words(text string) []string {
	var out []string
	for text = strings.TrimSpace(text); text != ""; text = strings.TrimSpace(text) {
		n := 1
		switch {
		case text[0] == '"':
			for text[n] != '"' {
				n++
			}
			n++
		case !strings.ContainsRune("()[]{}", rune(text[0])):
			n = strings.IndexAny(text+" ", " \n\t()[]{}\"")
		}
		out, text = append(out, text[:n]), text[n:]
	}
	return out
}

func (r *reader) next() string {
	w := r.words[0]
	r.words = r.words[1:]
	return w
}

// till reads up to a closing bracket.
func (r *reader) till(end string, one func()) {
	for r.words[0] != end {
		one()
	}
	r.next()
}

func (r *reader) term() api.Core {
	w := r.next()
	switch w[0] {
	case '(':
		return r.round()
	case '[':
		c := api.Core{Kind: api.CoreBlock, N: r.number()}
		r.till("]", func() { c.Kids = append(c.Kids, r.term()) })
		return c
	case '"':
		return api.Core{Kind: api.CoreText, Text: w[1 : len(w)-1]}
	case '#':
		return api.Core{Kind: api.CoreSmall, N: count(w[1:])}
	case '$':
		c, is := r.told[w[1:]]
		if !is {
			panic(w)
		}
		return c
	case '!':
		return api.Core{Kind: api.CoreExn, N: count(w[1:])}
	case '%':
		f, err := strconv.ParseFloat(w[1:], 64)
		if err != nil {
			panic(w)
		}
		return api.Core{Kind: api.CoreReal, Bits: math.Float64bits(f)}
	}
	if a, e := big.Parse(w); e == api.OK {
		return api.Core{Kind: api.CoreInt, Int: a}
	}
	return api.Core{Kind: api.CoreVar, Name: w}
}

func count(w string) int {
	n, err := strconv.Atoi(w)
	if err != nil {
		panic(w)
	}
	return n
}

func (r *reader) number() int { return count(r.next()) }

// round reads what stands behind an opening parenthesis.
func (r *reader) round() api.Core {
	c := api.Core{Kind: api.CoreApp}
	kid := func() { c.Kids = append(c.Kids, r.term()) }
	w := r.words[0]
	kinds := map[string]int{"fn": api.CoreFn, "let": api.CoreLet, "rec": api.CoreRec, "field": api.CoreField, "if": api.CoreIf, "switch": api.CoreSwitch, "raise": api.CoreRaise, "handle": api.CoreHandle, "case": api.CoreCase}
	if _, is := r.prims[w]; is {
		c.Kind, c.Name = api.CorePrim, r.next()
	} else if kinds[w] > 0 {
		c.Kind = kinds[r.next()]
	}
	switch c.Kind {
	case api.CoreFn, api.CoreLet:
		c.Name = r.next()
	case api.CoreRec:
		for r.words[0] == "(" && r.words[1] != "(" && r.words[2] == "(" && r.words[3] == "fn" {
			r.next()
			c.Names = append(c.Names, r.next())
			kid()
			r.till(")", kid)
		}
	case api.CoreField:
		c.N = r.number()
	case api.CoreHandle:
		kid()
		c.Name = r.next()
	case api.CoreSwitch:
		kid()
		for strings.HasSuffix(r.words[0], ":") {
			c.Tags = append(c.Tags, count(strings.TrimSuffix(r.next(), ":")))
			kid()
		}
	case api.CoreCase:
		kid()
		for r.words[0] == "(" && r.words[1] == "|" {
			r.next()
			r.next()
			c.Rows = append(c.Rows, api.Row{S: r.shape(), E: r.term()})
			r.next()
		}
	}
	r.till(")", kid)
	return c
}

func (r *reader) shape() api.Shape {
	s := api.Shape{Kind: api.ShapeAny}
	if strings.HasSuffix(r.words[0], "@") {
		s.Name = strings.TrimSuffix(r.next(), "@")
	}
	kid := func() { s.Kids = append(s.Kids, r.shape()) }
	w := r.next()
	switch w[0] {
	case '[':
		s.Kind = api.ShapeBlock
		s.N, s.Span = span(r.next())
		r.till("]", kid)
		return s
	case '{':
		s.Kind, s.Cell = api.ShapeExn, r.next()
		r.till("}", kid)
		return s
	case '"':
		s.Kind, s.Text = api.ShapeText, w[1:len(w)-1]
		return s
	case '#':
		s.Kind = api.ShapeSmall
		s.N, s.Span = span(w[1:])
		return s
	}
	if a, e := big.Parse(w); e == api.OK {
		s.Kind, s.Int = api.ShapeInt, a
	} else if w != "_" {
		s.Name = w
	}
	return s
}

func span(w string) (n, all int) {
	first, rest, _ := strings.Cut(w, "/")
	return count(first), count(rest)
}

// shown is a term as the text that it is read from.
func shown(c api.Core) string {
	l := []string{}
	for _, k := range c.Kids {
		l = append(l, shown(k))
	}
	switch c.Kind {
	case api.CoreVar:
		return c.Name
	case api.CoreInt:
		return big.Text(c.Int)
	case api.CoreSmall:
		return "#" + strconv.Itoa(c.N)
	case api.CoreReal:
		return "%" + strconv.FormatFloat(math.Float64frombits(c.Bits), 'g', -1, 64)
	case api.CoreText:
		return `"` + c.Text + `"`
	case api.CoreExn:
		return "!" + strconv.Itoa(c.N)
	case api.CoreBlock:
		return "[" + strings.Join(append([]string{strconv.Itoa(c.N)}, l...), " ") + "]"
	case api.CoreApp:
		return "(" + strings.Join(l, " ") + ")"
	case api.CoreFn, api.CoreLet, api.CorePrim:
		l = append([]string{c.Name}, l...)
	case api.CoreRec:
		for i, name := range c.Names {
			l[i] = "(" + name + " " + l[i] + ")"
		}
	case api.CoreField:
		l = append([]string{strconv.Itoa(c.N)}, l...)
	case api.CoreSwitch:
		for i, tag := range c.Tags {
			l[i+1] = strconv.Itoa(tag) + ": " + l[i+1]
		}
	case api.CoreHandle:
		l[0] += " " + c.Name
	case api.CoreCase:
		for _, r := range c.Rows {
			l[0] += " (| " + shownShape(r.S) + " " + shown(r.E) + ")"
		}
	}
	word := map[int]string{api.CoreFn: "fn ", api.CoreLet: "let ", api.CoreRec: "rec ", api.CoreField: "field ", api.CoreIf: "if ", api.CoreSwitch: "switch ", api.CoreRaise: "raise ", api.CoreHandle: "handle ", api.CoreCase: "case "}[c.Kind]
	return "(" + word + strings.Join(l, " ") + ")"
}

func shownShape(s api.Shape) string {
	l := []string{}
	for _, k := range s.Kids {
		l = append(l, shownShape(k))
	}
	ahead, inner := "", strings.Join(l, " ")
	if s.Name != "" {
		ahead = s.Name + "@ "
	}
	number := strconv.Itoa(s.N) + "/" + strconv.Itoa(s.Span)
	switch s.Kind {
	case api.ShapeInt:
		return ahead + big.Text(s.Int)
	case api.ShapeSmall:
		return ahead + "#" + number
	case api.ShapeText:
		return ahead + `"` + s.Text + `"`
	case api.ShapeBlock:
		return ahead + "[" + number + " " + inner + "]"
	case api.ShapeExn:
		return ahead + "{" + s.Cell + " " + inner + "}"
	}
	if s.Name != "" {
		return s.Name
	}
	return "_"
}

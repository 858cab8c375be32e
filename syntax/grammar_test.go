package syntax_test

import (
	"math/rand"
	"slices"
	"strings"
	"testing"

	"smithy/api"
	"smithy/lex"
	"smithy/syntax"
)

// The document's grammar, as it stands there, but for these: what stands ahead of a `|` leaves no rules open (closed*),
// as these would take the `|`; several types in parentheses are no type by themselves; NAME is a LONG or VID that is no
// operator (and not `=`), OP one that is, POP one that is in patterns; LEVEL is one digit, NUMBER a label's INT; ahead of
// `as` stands no operator here (it may, but it is told from others by the `as` behind it alone).
const grammar = `
program = { dec | ";" }
dec     = plain
        | "structure" ID [ ( ":" | ":>" ) sig ] "=" ( "struct" { dec | ";" } "end" | LONG )
        | "signature" ID "=" "sig" specs
plain   = "val" pat "=" exp
        | "fun" fun { "and" fun }
        | "datatype" data { "and" data }
        | "type" vars ID "=" ty
        | "exception" ID [ "of" ty ]
        | "infix" [ LEVEL ] VID { VID } | "infixr" [ LEVEL ] VID { VID } | "nonfix" VID { VID }
fun     = { clause closedexp "|" } clause exp
clause  = [ "op" ] VID atpat { atpat } [ ":" ty ] "="
data    = vars ID "=" con { "|" con }
con     = [ "op" ] VID [ "of" ty ]
vars    = [ TYVAR | "(" TYVAR { "," TYVAR } ")" ]
sig     = ID | "sig" specs
specs   = { "val" VID ":" ty | "type" vars ID [ "=" ty ] | "datatype" data | "exception" ID [ "of" ty ] | ";" } "end"
ty      = product [ "->" ty ]
product = applied { STAR applied }
applied = ( TYVAR | LONG | "{" [ label ":" ty { "," label ":" ty } ] "}" | "(" ty ")" | "(" ty "," ty { "," ty } ")" LONG ) { LONG }
pat     = ( SHORT "as" pat | patops ) { ":" ty }
patops  = patapp { POP patapp }
patapp  = ( "op" VID | NAME ) [ atpat ] | atpat
atpat   = "_" | INT | CHAR | TEXT | NAME | "op" VID | "(" [ pat { "," pat } ] ")" | "[" [ pat { "," pat } ] "]"
        | "{" [ label "=" pat { "," label "=" pat } ] "}"
exp     = ahead | either { "handle" match }
ahead   = "raise" exp | "if" exp "then" exp "else" exp | "while" exp "do" exp | "case" exp "of" match | "fn" match
either  = both [ "orelse" ( ahead | either ) ]
both    = typed [ "andalso" ( ahead | both ) ]
closedexp    = closedahead | closedeither
closedahead  = "raise" closedexp | "if" exp "then" exp "else" closedexp | "while" exp "do" closedexp
closedeither = closedboth | both "orelse" ( closedahead | closedeither )
closedboth   = typed [ "andalso" ( closedahead | closedboth ) ]
typed   = ops { ":" ty }
ops     = app { OP app }
app     = atom { atom }
match   = { pat "=>" closedexp "|" } pat "=>" exp
atom    = INT | REAL | CHAR | TEXT | NAME | "op" VID | "#" label
        | "(" [ exp { "," exp } | exp { ";" exp } ] ")" | "[" [ exp { "," exp } ] "]" | "{" [ label "=" exp { "," label "=" exp } ] "}"
        | "let" { plain | ";" } "in" exp { ";" exp } "end"
label   = ID | NUMBER
`

// rules are a grammar's, by what they make; a name that they have not stands for a word.
type rules map[string][][]string

// readGrammar reads a grammar: what stands in brackets gets a name of its own.
func readGrammar(text string) rules {
	out := rules{}
	words := strings.Fields(text)
	var alternatives func(name, end string)
	alternatives = func(name, end string) {
		list := [][]string{nil}
		for len(words) > 0 && words[0] != end && !(len(words) > 1 && words[1] == "=") {
			w := words[0]
			words = words[1:]
			last := &list[len(list)-1]
			switch closing := map[string]string{"{": "}", "[": "]", "(": ")"}[w]; {
			case w == "|":
				list = append(list, nil)
			case closing != "":
				inner := name + "/" + string(rune('a'+len(out)%26)) + string(rune('a'+len(out)/26))
				out[inner] = nil
				alternatives(inner, closing)
				words = words[1:]
				if w == "[" {
					out[inner] = append(out[inner], nil)
				}
				if w == "{" {
					for i, x := range out[inner] {
						out[inner][i] = append([]string{inner}, x...)
					}
					out[inner] = append(out[inner], nil)
				}
				*last = append(*last, inner)
			default:
				*last = append(*last, w)
			}
		}
		out[name] = list
	}
	for len(words) > 0 {
		name := words[0]
		words = words[2:]
		alternatives(name, "")
	}
	return out
}

type item struct {
	name      string
	rule, dot int
	from      int
}

// chart tells, word by word, what may come next (by Earley's way).
type chart struct {
	rules rules
	empty map[string]bool
	sets  [][]item
}

func newChart(g rules) *chart {
	c := &chart{rules: g, empty: map[string]bool{}}
	for again := true; again; {
		again = false
		for name, list := range g {
			for _, r := range list {
				if !c.empty[name] && !slices.ContainsFunc(r, func(s string) bool { return !c.empty[s] }) {
					c.empty[name], again = true, true
				}
			}
		}
	}
	c.sets = [][]item{nil}
	c.close([]item{{name: "program"}})
	return c
}

// close works out the last set from what it begins with.
func (c *chart) close(first []item) {
	at := len(c.sets) - 1
	seen := map[item]bool{}
	var set []item
	add := func(x item) {
		if !seen[x] {
			seen[x] = true
			set = append(set, x)
		}
	}
	for _, x := range first {
		add(x)
	}
	for i := 0; i < len(set); i++ {
		x := set[i]
		r := c.rules[x.name][x.rule]
		if x.dot == len(r) {
			done := c.sets[x.from]
			if x.from == at {
				done = set
			}
			for _, y := range done {
				if s := c.rules[y.name][y.rule]; y.dot < len(s) && s[y.dot] == x.name {
					add(item{y.name, y.rule, y.dot + 1, y.from})
				}
			}
			continue
		}
		for j := range c.rules[r[x.dot]] {
			add(item{r[x.dot], j, 0, at})
		}
		if c.empty[r[x.dot]] {
			add(item{x.name, x.rule, x.dot + 1, x.from})
		}
	}
	c.sets[at] = set
}

// behind is the items behind a word of these kinds; none, if it can't come.
func (c *chart) behind(kinds []string) []item {
	var out []item
	for _, x := range c.sets[len(c.sets)-1] {
		if r := c.rules[x.name][x.rule]; x.dot < len(r) && slices.Contains(kinds, r[x.dot]) {
			out = append(out, item{x.name, x.rule, x.dot + 1, x.from})
		}
	}
	return out
}

func (c *chart) next(kinds []string) {
	first := c.behind(kinds)
	c.sets = append(c.sets, nil)
	c.close(first)
}

// whole tells whether the words so far are a program.
func (c *chart) whole() bool {
	for _, x := range c.sets[len(c.sets)-1] {
		if x.name == "program" && x.from == 0 && x.dot == len(c.rules[x.name][x.rule]) {
			return true
		}
	}
	return false
}

// kindsOf are the grammar's words that a word may be, with the operators that are there at first.
func kindsOf(w lex.Token) []string {
	operator := strings.Contains(" * / div mod + - ^ :: @ = <> < <= > >= := o ", " "+w.Text+" ")
	short := !strings.Contains(w.Text, ".")
	var out []string
	switch w.Kind {
	case lex.Id:
		out = append(out, "LONG")
		if short {
			out = append(out, "ID", "VID")
		}
	case lex.Symbol:
		out = append(out, "VID")
		if w.Text == "*" {
			out = append(out, "STAR")
		}
	case lex.Key:
		out = append(out, `"`+w.Text+`"`)
		if w.Text == "=" {
			return append(out, "VID", "OP")
		}
		return out
	case lex.Int:
		out = append(out, "INT")
		if len(w.Text) == 1 {
			out = append(out, "LEVEL")
		}
		if w.Text[0] >= '1' && w.Text[0] <= '9' && len(w.Text) <= 64 {
			out = append(out, "NUMBER")
		}
		return out
	default:
		return []string{map[int]string{lex.TyVar: "TYVAR", lex.Real: "REAL", lex.Char: "CHAR", lex.Text: "TEXT"}[w.Kind]}
	}
	switch {
	case operator:
		return append(out, "OP", "POP")
	case w.Kind == lex.Id && short:
		return append(out, "NAME", "SHORT")
	}
	return append(out, "NAME")
}

// vocabulary is a word of each kind, and all reserved ones.
func vocabulary() []string {
	words := "f S.a ! + * :: o 'a 5 10 0 ~5 1.5 #\"a\" \"a\" and andalso as case datatype do else end exception fn fun handle if in infix infixr let nonfix of op orelse raise sig signature struct structure then type val while -> => : :> = | # ( ) [ ] { } , ; _"
	return strings.Fields(words)
}

// placed holds Parse against the chart, with each word of the vocabulary behind words that may come, and with none.
// It answers which words may come next, as Parse has it, too.
func placed(t *testing.T, c *chart, words []string) (next []string) {
	t.Helper()
	ahead := strings.Join(words, " ")
	want := api.Mishap{Code: api.ErrEnd, At: len(ahead)}
	if c.whole() {
		want = api.Mishap{}
	}
	if l, m := syntax.Parse(ahead); m != want || (len(l) > 0) != (c.whole() && len(words) > 0) {
		t.Fatalf("%q: %v, %d declarations, want %v", ahead, m, len(l), want)
	}
	for _, w := range vocabulary() {
		tokens, _ := lex.Tokens(w)
		may := len(c.behind(kindsOf(tokens[0]))) > 0
		all := ahead + " " + w
		_, m := syntax.Parse(all)
		goesOn := m.Code == api.OK || m == api.Mishap{Code: api.ErrEnd, At: len(all)}
		stops := m == api.Mishap{Code: api.ErrRead, At: len(ahead) + 1}
		// That clauses are of one name and of one number of patterns is not the grammar's.
		clauses := slices.Contains(words, "fun") && slices.Contains(words, "|")
		switch {
		case may && goesOn:
			next = append(next, w)
		case may && !(clauses && stops), !may && !stops:
			t.Fatalf("%q: %v; may it stand there: %v", all, m, may)
		}
	}
	return next
}

// P4.1: at each place of programs of all kinds each word that can't stand there is ErrRead at it, and the text's end,
// where a word is needed, ErrEnd.
func TestEachPlace(t *testing.T) {
	g := readGrammar(grammar)
	for _, source := range []string{
		"val x = 1 ; val _ = f",
		"val f as S.a : 'a * 'a -> 'a = 1.5",
		"val op + ( f , [ 1 , _ ] ) = op + ( 1 , 2 )",
		"val { f = f , 5 = \"a\" , o = #\"a\" } = { f = 1 , 5 = S.a }",
		"val f f :: f + ! : f = 1 + f f = f : 'a f",
		"fun f 1 f : f = 1 | op f ( f ) _ = raise f and op + _ = f",
		"fun f _ = case f of f => 1 | _ => f handle _ => 1 and f _ = fn _ => f",
		"fun f _ = ( fn _ => f ) | f _ = if f then f else f | f _ = while f do f",
		"datatype f = f and 'a f = op + of 'a | f and ( 'a , 'a ) f = f of f",
		"type f = { f : f , 5 : f } type 'a f = ( f -> f , f ) f f * f type ( 'a ) f = { }",
		"exception f exception f of ( f ) f",
		"infix 5 f infixr 0 ! = nonfix f + infix f",
		"structure f = struct ; val f = 1 structure f = S.a end ; structure f : f = f",
		"structure f :> sig val + : f ; type 'a f type f = f datatype f = f | f of f exception f exception f of f end = struct end",
		"signature f = sig end signature f = sig val = : f end",
		"val f = let val f = 1 ; exception f in f ; f end",
		"val f = let in f end f",
		"val f = ( f ; f ; f ) ( ) ( f , f ) [ ] [ f , f ] # f # 5 { }",
		"val f = f andalso f orelse f andalso raise f orelse f",
		"val f = f orelse if f then f else f handle f => f | f => f",
		"val f = f andalso while f do case f of f => f | _ => f",
		"val f = f : f : f andalso fn _ => f",
		"fun f _ = f orelse raise f andalso f | f _ = f",
	} {
		c := newChart(g)
		words := strings.Fields(source)
		for i := range words {
			placed(t, c, words[:i])
			tokens, m := lex.Tokens(words[i])
			if m.Code != api.OK || len(c.behind(kindsOf(tokens[0]))) == 0 {
				t.Fatalf("%q: %q", source, words[:i+1])
			}
			c.next(kindsOf(tokens[0]))
		}
		placed(t, c, words)
	}
}

// P4.1: the same, with programs at random.
func TestEachPlaceAtRandom(t *testing.T) {
	g := readGrammar(grammar)
	random := rand.New(rand.NewSource(4))
	for range 120 {
		c := newChart(g)
		var words []string
		for len(words) < 30 {
			next := placed(t, c, words)
			// The words that declare operators would turn the vocabulary into another one.
			next = slices.DeleteFunc(next, func(w string) bool { return strings.Contains(" infix infixr nonfix ; ", " "+w+" ") })
			if len(next) == 0 {
				break
			}
			w := next[random.Intn(len(next))]
			tokens, _ := lex.Tokens(w)
			words = append(words, w)
			c.next(kindsOf(tokens[0]))
		}
	}
}

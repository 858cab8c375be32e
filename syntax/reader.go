package syntax

import (
	"slices"
	"strings"

	"smithy/api"
	"smithy/lex"
)

// reader reads words as trees. Its functions answer pointers, so that they leave little on the stack: a text may nest
// tens of thousands of parentheses, which count as no depth.
type reader struct {
	words []lex.Token // behind the last one an empty word, at the text's end
	next  int
	operators
}

// read is the declarations that words say, in a text of so many bytes.
func read(words []lex.Token, length int) (decs []api.Dec, mishap api.Mishap) {
	defer func() {
		if thrown, is := recover().(api.Mishap); is {
			decs, mishap = nil, thrown
		}
	}()
	r := &reader{words: append(words, lex.Token{At: length}), operators: newOperators()}
	decs = r.decs("structure", "signature")
	if r.now().Kind != 0 {
		panic(r.refusal())
	}
	return decs, api.Mishap{}
}

// now is the word that comes.
func (r *reader) now() *lex.Token { return &r.words[r.next] }

// take is the word that comes; what comes then is the one behind it.
func (r *reader) take() *lex.Token {
	w := r.now()
	r.next++
	return w
}

// refusal is what is thrown where the word that comes can't stand.
func (r *reader) refusal() api.Mishap {
	if r.now().Kind == 0 {
		return api.Mishap{Code: api.ErrEnd, At: r.now().At}
	}
	return api.Mishap{Code: api.ErrRead, At: r.now().At}
}

// is tells whether the word that comes is one of these reserved ones.
func (r *reader) is(keys ...string) bool {
	return r.now().Kind == lex.Key && slices.Contains(keys, r.now().Text)
}

// took takes the word that comes, if it is one of these reserved ones.
func (r *reader) took(keys ...string) bool {
	if !r.is(keys...) {
		return false
	}
	r.next++
	return true
}

// need takes one of these reserved words, and tells which.
func (r *reader) need(keys ...string) string { return r.textIf(r.is(keys...)) }

// textIf takes the word that comes, for its text, if it may stand there.
func (r *reader) textIf(fits bool) string {
	if !fits {
		panic(r.refusal())
	}
	return r.take().Text
}

// isName tells whether an ID comes.
func (r *reader) isName() bool { return r.isLong() && !strings.Contains(r.now().Text, ".") }

// isLong tells whether a LONG comes.
func (r *reader) isLong() bool { return r.now().Kind == lex.Id }

// isValueName tells whether a VID comes.
func (r *reader) isValueName() bool {
	return r.isName() || r.now().Kind == lex.Symbol || r.is("=")
}

func (r *reader) name() string      { return r.textIf(r.isName()) }
func (r *reader) long() string      { return r.textIf(r.isLong()) }
func (r *reader) valueName() string { return r.textIf(r.isValueName()) }
func (r *reader) typeVar() string   { return r.textIf(r.now().Kind == lex.TyVar) }
func (r *reader) label() string     { return r.textIf(r.isName() || r.isNumberLabel()) }

func (r *reader) isNumberLabel() bool {
	w := r.now()
	return w.Kind == lex.Int && w.Text[0] >= '1' && w.Text[0] <= '9' && len(w.Text) <= api.MaxName
}

// isPlain tells whether a name comes that stands for itself without op.
func (r *reader) isPlain() bool {
	w := r.now()
	return (w.Kind == lex.Id || w.Kind == lex.Symbol) && !r.of(w.Text).infix
}

// row reads things with a word between each two.
func row[T any](r *reader, between string, one func() *T) []T {
	return more(r, []T{*one()}, between, one)
}

// more reads the rest of a row.
func more[T any](r *reader, list []T, between string, one func() *T) []T {
	for r.took(between) {
		list = append(list, *one())
	}
	return list
}

// rowUpTo reads things with commas up to a closing word, or none.
func rowUpTo[T any](r *reader, end string, one func() *T) []T {
	if r.took(end) {
		return nil
	}
	list := row(r, ",", one)
	r.need(end)
	return list
}

// fields reads labels and things with commas up to a closing brace.
func fields[T any](r *reader, between string, one func() *T) (labels []string, list []T) {
	list = rowUpTo(r, "}", func() *T {
		labels = append(labels, r.label())
		r.need(between)
		return one()
	})
	return labels, list
}

package syntax

import (
	"slices"
	"strings"

	"smithy/api"
)

// mostWritten is more than Parse's answers ever take: a text that grows beyond it is of other trees, and is left there.
const mostWritten = 16 * api.MaxSource

// writer writes trees as words.
type writer struct {
	text  strings.Builder
	last  string // the word that was written last
	tight bool   // no more blanks than are needed
	depth int
	operators
}

// written is the text of declarations; of trees that are too deep or too great for Parse what was written till then.
func written(l []api.Dec, tight bool) (text string) {
	w := &writer{tight: tight, operators: newOperators()}
	defer func() {
		if recover() != nil {
			text = w.text.String()
		}
	}()
	for i := range l {
		w.dec(&l[i])
		if !tight {
			w.text.WriteByte('\n')
			w.last = ""
		}
	}
	return w.text.String()
}

// down goes into a part of the tree, up comes out of it.
func (w *writer) down() {
	w.depth++
	if w.depth > api.MaxDepth {
		panic(api.ErrDepth)
	}
}

func (w *writer) up() { w.depth-- }

// words writes words, with blanks between them.
func (w *writer) words(list ...string) {
	for _, word := range list {
		if word == "" {
			continue
		}
		if w.apart(word) {
			w.text.WriteByte(' ')
		}
		w.text.WriteString(word)
		w.last = word
	}
	if w.text.Len() > mostWritten {
		panic(api.ErrLong)
	}
}

// apart tells whether a blank stands between the last word and the next one.
func (w *writer) apart(next string) bool {
	if w.last == "" {
		return false
	}
	if w.tight || opens(w.last) || closes(next) {
		return runTogether(w.last, next)
	}
	return true
}

func opens(word string) bool { return word == "(" || word == "[" || word == "{" || word == "#" }

func closes(word string) bool {
	return word == ")" || word == "]" || word == "}" || word == "," || word == ";"
}

// runTogether tells whether two words with no blank between them might be cut otherwise.
func runTogether(a, b string) bool {
	last, first := a[len(a)-1], b[0]
	switch {
	case a == "(":
		return first == '*'
	case a == "~":
		return isSymbolByte(first) || isDigit(first)
	}
	return isNameByte(last) && isNameByte(first) || isSymbolByte(last) && isSymbolByte(first)
}

func isDigit(b byte) bool { return b >= '0' && b <= '9' }

func isNameByte(b byte) bool {
	return b >= 'A' && b <= 'Z' || b >= 'a' && b <= 'z' || isDigit(b) || b == '_' || b == '\''
}

func isSymbolByte(b byte) bool { return strings.IndexByte("!%&$#+-/:<=>?@\\~`^|*", b) >= 0 }

// item is a list's thing, or an empty one where there is none.
func item[T any](l []T, i int) *T {
	if i < len(l) {
		return &l[i]
	}
	return new(T)
}

// writeRow writes things with a word between each two.
func writeRow[T any](w *writer, l []T, between string, one func(x *T)) {
	for i := range l {
		if i > 0 {
			w.words(between)
		}
		one(&l[i])
	}
}

// writeFields writes labels and things in braces.
func writeFields[T any](w *writer, labels []string, l []T, between string, one func(x *T)) {
	w.words("{")
	for i := range l {
		if i > 0 {
			w.words(",")
		}
		w.words(*item(labels, i), between)
		one(&l[i])
	}
	w.words("}")
}

// isTuple tells whether n things with these labels are written without them.
func isTuple(labels []string, n int) bool {
	return n != 1 && slices.Equal(labels, numbers(n))
}

// reference writes a name that stands for itself.
func (w *writer) reference(name string) {
	if name == "=" || w.of(name).infix {
		w.words("op")
	}
	w.words(name)
}

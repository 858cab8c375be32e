package prim

import "smithy/api"

// Value is an api.Int, a Small, a Real, a Text, a *Block, a *Cell, a *Vector or *Bytes. Whatever else it is is a function:
// what that is each language says itself.
type Value any

// Small is a small number.
type Small int

// Real is a real, by its bits.
type Real uint64

// Text is a row of bytes.
type Text string

// Block has a tag and fields.
type Block struct {
	Tag    int
	Fields []Value
}

// Cell has a value in it, and is itself.
type Cell struct{ In Value }

// Vector has values.
type Vector struct{ Items []Value }

// Bytes are themselves.
type Bytes struct{ Data []byte }

// Tags of the blocks that a list is made of, but for its end, which is a small number.
const (
	tagEnd  = 0
	tagCons = 1
)

// Unit is the block without fields.
func Unit() Value { return &Block{} }

// Truth is true or false as a value.
func Truth(is bool) Value {
	if is {
		return Small(1)
	}
	return Small(0)
}

// Pack is the record of values, in the order of its labels.
func Pack(fields ...Value) *Block { return &Block{Fields: fields} }

// List is the list of values.
func List(items []Value) Value {
	var list Value = Small(tagEnd)
	for i := len(items) - 1; i >= 0; i-- {
		list = &Block{Tag: tagCons, Fields: []Value{Pack(items[i], list)}}
	}
	return list
}

// Uncons is a list's first element and the list of the others, if it has one. The run is stuck, if it is no list.
func Uncons(list Value) (first, rest Value, is bool) {
	if end, isSmall := list.(Small); isSmall {
		Must(end == tagEnd)
		return nil, nil, false
	}
	cons := As[*Block](list)
	Must(cons.Tag == tagCons && len(cons.Fields) == 1)
	pair := As[*Block](cons.Fields[0])
	Must(pair.Tag == 0 && len(pair.Fields) == 2)
	return pair.Fields[0], pair.Fields[1], true
}

// As is a value of the kind T. The run is stuck, if it is of another kind.
func As[T any](v Value) T {
	x, is := v.(T)
	Must(is)
	return x
}

// Exception is a new exception's cell.
func Exception(name string) *Cell { return &Cell{Text(name)} }

// exceptionNames are those of the built-in ones, in the order of their numbers.
const exceptionNames = "Match Bind Div Subscript Size Io Domain Chr"

// builtIn is how many built-in exceptions there are.
const builtIn = api.ExnChr + 1

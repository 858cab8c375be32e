package source

import (
	"strings"

	"smithy/prim"
)

// primitives are the values that there are at first, each with the primitive that it is.
const primitives = `
= eq  / rdiv  div div  mod mod  ref ref  print print  exit exit  size size  str str  ord ord  chr chr
^ cat  ! get  := set  inputLine inputline  readFile readfile  writeFile writefile
Int.toString itext  Real.fromInt rfromint  Real.floor rfloor  Real.bits rbits
String.sub ssub  String.substring substring
Vector.fromList vector  Vector.sub vsub  Vector.length vlen
Bytes.new bnew  Bytes.get bget  Bytes.put bset  Bytes.length blen
+int add  -int sub  *int mul  ~int neg  +real radd  -real rsub  *real rmul  ~real rneg
<int lt  <=int le  <real rlt  <=real rle  <char clt  <=char cle  <string slt  <=string sle`

// turnedPrimitives are values that are primitives of which the arguments are turned.
const turnedPrimitives = `>int lt  >=int le  >real rlt  >=real rle  >char clt  >=char cle  >string slt  >=string sle`

// begin declares what there is at first.
func (r *runner) begin() {
	known := prim.Primitives()
	for name, p := range pairs(primitives) {
		r.declareFirst(name, r.primitive(known[p]))
	}
	for name, p := range pairs(turnedPrimitives) {
		r.declareFirst(name, r.turned(known[p]))
	}
	r.declareFirst("<>", r.opposite(known["eq"]))
	r.basis.values["false"] = constructor(0, false)
	r.basis.values["true"] = constructor(1, false)
	r.basis.values["nil"] = constructor(0, false)
	r.basis.values["::"] = constructor(1, true)
	for _, cell := range r.BuiltIn() {
		r.basis.values[string(prim.As[prim.Text](cell.In))] = exception(cell, false)
	}
}

// pairs goes through a row of words, two by two.
func pairs(row string) func(yield func(a, b string) bool) {
	return func(yield func(a, b string) bool) {
		words := strings.Fields(row)
		for i := 0; i+1 < len(words) && yield(words[i], words[i+1]); i += 2 {
		}
	}
}

// declareFirst declares a value that there is at first, in its structure, if it has one.
func (r *runner) declareFirst(name string, f function) {
	in := r.basis
	if ahead, short, isLong := strings.Cut(name, "."); isLong {
		putIfNew(in.parts, ahead, newStructure())
		in, name = in.parts[ahead], short
	}
	in.values[name] = meaning{value: f}
}

// primitive is a function that takes a record, if the primitive has several arguments.
func (r *runner) primitive(p prim.Primitive) function {
	if p.Many == 1 {
		return function{func(x prim.Value) prim.Value { return p.Do(r.Run, []prim.Value{x}) }}
	}
	return function{func(x prim.Value) prim.Value { return p.Do(r.Run, fields(x, p.Many)) }}
}

func (r *runner) turned(p prim.Primitive) function {
	return function{func(x prim.Value) prim.Value {
		args := fields(x, 2)
		return p.Do(r.Run, []prim.Value{args[1], args[0]})
	}}
}

func (r *runner) opposite(p prim.Primitive) function {
	return function{func(x prim.Value) prim.Value { return prim.Truth(!isTrue(p.Do(r.Run, fields(x, 2)))) }}
}

// fields are those of a record that has so many.
func fields(record prim.Value, many int) []prim.Value {
	b := prim.As[*prim.Block](record)
	prim.Must(b.Tag == 0 && len(b.Fields) == many)
	return b.Fields
}

// Package front is what the layers that go through declarations have in common: the order of labels, the values that there
// are at first, how great trees may be.
package front

import "strings"

// Value is a value that there is at first, and that is a primitive. Of several arguments it takes a record.
type Value struct {
	Structure string // in which it is; "": in none
	Name      string
	Primitive string
	Many      int  // how many arguments the primitive has
	Turned    bool // of the value's two arguments the second one is the primitive's first
	Opposite  bool // it is the opposite of what the primitive answers
}

// Rows of values, each with its primitive: by how many arguments that has, and how it stands for the value.
const (
	ofOne = `
ref ref  print print  exit exit  size size  str str  ord ord  chr chr  ! get  inputLine inputline  readFile readfile
Int.toString itext  Real.fromInt rfromint  Real.floor rfloor  Real.bits rbits
Vector.fromList vector  Vector.length vlen  Bytes.new bnew  Bytes.length blen
~int neg  ~real rneg`
	ofTwo = `
= eq  / rdiv  div div  mod mod  ^ cat  := set  writeFile writefile
String.sub ssub  Vector.sub vsub  Bytes.get bget
+int add  -int sub  *int mul  +real radd  -real rsub  *real rmul
<int lt  <=int le  <real rlt  <=real rle  <char clt  <=char cle  <string slt  <=string sle`
	ofTwoTurned = `
>int lt  >=int le  >real rlt  >=real rle  >char clt  >=char cle  >string slt  >=string sle`
	ofTwoOpposite = `
<> eq`
	ofThree = `
String.substring substring  Bytes.put bset`
)

// Values are all of them.
func Values() []Value {
	all := values(nil, ofOne, Value{Many: 1})
	all = values(all, ofTwo, Value{Many: 2})
	all = values(all, ofTwoTurned, Value{Many: 2, Turned: true})
	all = values(all, ofTwoOpposite, Value{Many: 2, Opposite: true})
	return values(all, ofThree, Value{Many: 3})
}

// values are those of a row, which are like one in all but their names and primitives, behind others.
func values(ahead []Value, row string, like Value) []Value {
	words := strings.Fields(row)
	for i := 0; i+1 < len(words); i += 2 {
		v := like
		v.Name, v.Primitive = words[i], words[i+1]
		if in, short, isLong := strings.Cut(v.Name, "."); isLong {
			v.Structure, v.Name = in, short
		}
		ahead = append(ahead, v)
	}
	return ahead
}

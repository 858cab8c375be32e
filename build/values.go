package build

import "smithy/api"

// How words and things lie in memory.
const (
	WordBytes  = 8
	WordBits   = 64
	WholeWords = -WordBytes // as bits: all but those that tell a place within a word
	TagAt      = 8          // the bit of a header from which on the tag stands
	LengthAt   = 24         // the bit from which on the length does
	Small0     = 1          // the word of the small number 0
)

// Places in the data that the collector's chapter names.
const (
	RaisedAt     = 24
	ExceptionsAt = 32
)

// allocFunction is the number of gc.alloc, behind that of the collector's first function.
const allocFunction = 1

// Header is that of a thing with the tag 0.
func Header(kind, length int64) int64 { return 1 | kind<<1 | length<<LengthAt }

// Values writes a function of values, with registers of the numbers that most of these need.
type Values struct {
	*Builder
	Zero, One, Eight Reg
	gc, raise        int
}

// NewValues is one by the numbers of the collector's first function, and of the one that raises an exception.
func NewValues(b *Builder, gc, raise int) *Values {
	v := &Values{Builder: b, gc: gc, raise: raise}
	v.numbers()
	return v
}

// numbers sets their registers.
func (v *Values) numbers() { v.Zero, v.One, v.Eight = v.Const(0), v.Const(1), v.Const(WordBytes) }

// Call is what the function f answers. No register outlives a call in a strict process: those of the numbers are set again behind it.
// (If it stands within a condition they are set there alone, and what is behind the condition must do without them.)
func (v *Values) Call(f int, args ...Reg) Reg {
	out := v.Builder.Call(f, args...)
	v.numbers()
	return out
}

// Alloc is the address of n bytes.
func (v *Values) Alloc(n Reg) Reg { return v.Call(v.gc+allocFunction, n) }

// Raise has the function raise an exception, RaiseOf that of a number that is known only when it comes to it.
func (v *Values) Raise(exception int64) { v.RaiseOf(v.Const(exception)) }

func (v *Values) RaiseOf(exception Reg) { v.Tail(v.raise, exception) }

// Whole is how many bytes the words have that n bytes lie in.
func (v *Values) Whole(n Reg) Reg {
	return v.And(v.Add(n, v.Const(WordBytes-1)), v.Const(WholeWords))
}

// Length is that of a thing.
func (v *Values) Length(thing Reg) Reg { return v.Shr(v.Load(thing, 0), v.Const(LengthAt)) }

// Small is the word of a small number.
func (v *Values) Small(n Reg) Reg { return v.Add(v.Add(n, n), v.One) }

// Sign is 1, if an integer's value is below 0, else 0.
func (v *Values) Sign(value Reg) Reg {
	out := v.Shr(value, v.Const(WordBits-1))
	v.When(v.And(value, v.One), api.CondEq, v.Zero, func() {
		v.Into(out, v.And(v.Shr(v.Load(value, 0), v.Const(TagAt)), v.One))
	})
	return out
}

// Turned is the opposite of n, if mask is -1; else n, the mask being 0.
func (v *Values) Turned(n, mask Reg) Reg { return v.Sub(v.Xor(n, mask), mask) }

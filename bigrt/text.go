package bigrt

import (
	"smithy/api"
	"smithy/build"
)

// Digits are made by rows of 19: a row is what is left of a division by the greatest power of 10 that is a word. (The power and its
// inverse as a divisor are words, and written as numbers that may be below 0.)
const (
	rowDigits  = 19
	power      = 10000000000000000000
	powerWord  = power - 1<<build.WordBits
	powerBack  = (1<<(2*build.WordBits)-1)/power - 1<<build.WordBits - 1<<build.WordBits
	rowsAtOnce = 3 // so many divisions are done in one go through the words: what is done for each word beside them counts less
)

// textWords is how many words a number has at most whose text may be made: with one more it is above 10 ^ MaxString.
const textWords = api.MaxString*bitsOfRow/(rowDigits*build.WordBits*1000) + 1

// bitsOfRow is how many thousandths of a bit a row tells: 10^19 is 2^63.116.
const bitsOfRow = 63117

// text writes int.text. Spare bytes are the argument's words, at first; rows come from their other end, the lowest digits' first, while
// the words become fewer. A row has a word, and takes 63.11 bits from the number: so there must be a 64th more room than for the words,
// and some for rows of noughts ahead.
func text(w *writer) {
	size := w.written(w.Param(0)).size
	w.When(w.Const(textWords*build.WordBytes), api.CondLtu, size, func() { w.Raise(api.ExnSize) })
	kept := w.Keep(w.Param(0))
	more := w.Add(w.And(w.Shr(size, w.Const(6)), w.Const(build.WholeWords)), w.Const((rowsAtOnce+1)*build.WordBytes))
	start := w.call(spareFunction, w.Param(0), w.Add(size, more))
	p := w.Kept(kept)
	x := w.written(p)
	w.copied(x, start)
	row := w.spareEnd(p)
	last := w.Sub(row, w.Eight)
	w.rows(start, w.Add(start, x.size), row)
	w.Loop(func(leave func()) {
		w.When(row, api.CondEq, last, leave)
		w.When(w.Load(row, 0), api.CondNe, w.Zero, leave)
		w.Advance(row, w.Eight)
	})
	w.tail(digitsFunction, p, w.Sub(row, start), w.Sign(w.Load(p, firstAt)))
}

// written is the first argument's magnitude, of which 0 has a word, too: its text has a digit.
func (w *writer) written(p build.Reg) magnitude {
	x := w.magnitude(w.Load(p, firstAt), firstCell)
	w.When(x.size, api.CondEq, w.Zero, func() { w.Move(x.size, w.Eight) })
	return x
}

// rows makes rows of the words from start to end, and puts them ahead of row; it sets both to where they are then.
func (w *writer) rows(start, end, row build.Reg) {
	by := divisor{topmost{word: w.Const(powerWord)}, w.Const(powerBack)}
	var rests [rowsAtOnce]build.Reg
	for i := range rests {
		rests[i] = w.Const(0)
	}
	w.While(start, api.CondLtu, end, func() {
		at := w.Copy(end)
		w.down(at, start, func(word build.Reg) {
			for _, rest := range rests {
				word = w.divided(rest, word, by)
			}
			w.Store(at, 0, word)
		})
		w.Loop(func(leave func()) {
			w.When(end, api.CondEq, start, leave)
			w.When(w.Load(end, -build.WordBytes), api.CondNe, w.Zero, leave)
			w.Reduce(end, w.Eight)
		})
		for _, rest := range rests {
			w.Reduce(row, w.Eight)
			w.Store(row, 0, rest)
			w.Move(rest, w.Zero)
		}
	})
}

// digits writes a function that answers the text of a sign and of the rows from a place of the spare bytes on. The argument is let go:
// there may be little room.
func digits(w *writer) {
	p, from, sign := w.Param(0), w.Param(1), w.Param(2)
	length := w.Add(sign, w.length(w.Add(w.spared(p), from), w.spareEnd(p)))
	w.When(w.Const(api.MaxString), api.CondLtu, length, func() { w.Raise(api.ExnSize) })
	w.Store(p, firstAt, w.Const(build.Small0))
	keptP, keptFrom, keptSign, keptLength := w.Keep(p), w.Keep(from), w.Keep(sign), w.Keep(length)
	out := w.Alloc(w.Add(w.Whole(length), w.Eight))

	p, length = w.Kept(keptP), w.Kept(keptLength)
	w.Store(out, 0, w.Add(w.Shl(length, w.Const(build.LengthAt)), w.Const(build.Header(api.HeapText, 0))))
	w.Store(w.Add(out, w.Whole(length)), 0, w.Zero) // the last word, of which not all is text
	first := w.Add(out, w.Eight)
	w.write(w.Add(first, length), w.Add(w.spared(p), w.Kept(keptFrom)), w.spareEnd(p))
	w.When(w.Kept(keptSign), api.CondNe, w.Zero, func() { w.StoreByte(first, w.Const('~')) })
	w.Ret(out)
}

// length is how many digits rows have together, the highest one of which has no noughts ahead.
func (w *writer) length(row, end build.Reg) build.Reg {
	ten, out := w.Const(10), w.Const(1)
	left := w.Div(w.Load(row, 0), ten)
	w.While(left, api.CondNe, w.Zero, func() {
		w.Into(left, w.Div(left, ten))
		w.Advance(out, w.One)
	})
	others := w.Shr(w.Sub(w.Sub(end, row), w.Eight), w.Const(3))
	return w.Add(out, w.Mul(others, w.Const(rowDigits)))
}

// write writes these digits ahead of at, a register that it sets, the lowest ones first.
func (w *writer) write(at, row, end build.Reg) {
	ten, nought, many := w.Const(10), w.Const('0'), w.Const(rowDigits)
	digit := func(left build.Reg) {
		q := w.Div(left, ten)
		w.Reduce(at, w.One)
		w.StoreByte(at, w.Add(w.Sub(left, w.Mul(q, ten)), nought))
		w.Move(left, q)
	}
	w.down(end, w.Add(row, w.Eight), func(left build.Reg) {
		stop := w.Sub(at, many)
		w.While(stop, api.CondLtu, at, func() { digit(left) })
	})
	left := w.Load(row, 0)
	digit(left)
	w.While(left, api.CondNe, w.Zero, func() { digit(left) })
}

package basisrt

import (
	"encoding/binary"
	"encoding/hex"
	"fmt"
	"math"
	"strconv"
	"strings"

	"smithy/api"
	"smithy/big"
)

// What tests hand to functions: an int or int64 is a small number, an api.Int an integer of any size, a string a text, a float64 or real a real;
// the others say what they are.
type (
	real   uint64 // by its bits
	bytes  string // HeapBytes
	at     int    // what the held word of that number is
	again  int    // what the argument of that number is
	list   []any  // as chapter 10 has lists
	vec    []any
	ref    struct{ in any } // a cell
	far    int              // a thing outside the heap, by its number in away
	exn    int              // the cell of an exception
	closed []any            // a closure
	block  struct {
		tag    int
		fields []any
	}
	unit struct{}
)

// tuple is a block of Tag 0.
func tuple(l ...any) block { return block{0, l} }

// leaf is a thing without values that a test hands in, if it is one.
func leaf(x any) (api.Thing, bool) {
	switch x := x.(type) {
	case string:
		return api.Thing{Kind: api.HeapText, Bytes: x}, true
	case bytes:
		return api.Thing{Kind: api.HeapBytes, Bytes: string(x)}, true
	case real:
		return api.Thing{Kind: api.HeapReal, Bytes: string(binary.LittleEndian.AppendUint64(nil, uint64(x)))}, true
	case float64:
		return leaf(real(math.Float64bits(x)))
	case api.Int:
		if n, fits := big.Int64(x); fits && n >= -1<<62 && n < 1<<62 {
			return api.Thing{}, false
		}
		t := api.Thing{Kind: api.HeapBig}
		if x.Neg {
			t.Tag = 1
		}
		var b []byte
		for _, limb := range x.Mag {
			b = binary.LittleEndian.AppendUint32(b, limb)
		}
		t.Bytes = string(b)
		return t, true
	}
	return api.Thing{}, false
}

// node is a thing with values that a test hands in, if it is one; its values are the parts.
func node(x any) (t api.Thing, parts []any, is bool) {
	switch x := x.(type) {
	case block:
		return api.Thing{Kind: api.HeapBlock, Tag: x.tag}, x.fields, true
	case vec:
		return api.Thing{Kind: api.HeapVector}, x, true
	case ref:
		return api.Thing{Kind: api.HeapCell}, []any{x.in}, true
	case closed:
		return api.Thing{Kind: api.HeapClosure, Tag: 5}, x, true
	}
	return api.Thing{}, nil, false
}

// number is a small number that a test hands in.
func number(x any) (int64, bool) {
	switch x := x.(type) {
	case int:
		return int64(x), true
	case int64:
		return x, true
	case api.Int:
		n, fits := big.Int64(x)
		return n, fits && n >= -1<<62 && n < 1<<62
	}
	return 0, false
}

// intOf is the integer that a HeapBig is.
func intOf(t api.Thing) api.Int {
	n := api.Int{Neg: t.Tag == 1}
	for b := []byte(t.Bytes); len(b) > 0; b = b[4:] {
		n.Mag = append(n.Mag, binary.LittleEndian.Uint32(b))
	}
	return n
}

// huge is an integer as a text has it.
func huge(s string) api.Int {
	n, e := big.Parse(s)
	if e != api.OK {
		panic(s)
	}
	return n
}

// power2 is 2^n.
func power2(n int) api.Int {
	out := api.Int{Mag: make([]uint32, n/32+1)}
	out.Mag[n/32] = 1 << (n % 32)
	return out
}

// short is a text, or, of a long one, what begins it and how long it is.
func short(s string) string {
	if len(s) > 60 {
		return fmt.Sprintf("%q.. %d", s[:40], len(s))
	}
	return strconv.Quote(s)
}

// brief is what begins the text of something.
func brief(x any) string {
	s := fmt.Sprintf("%v", x)
	return s[:min(len(s), 200)]
}

// told is what a value is, in short. Cells and bytes that were there before are told by their numbers, as those of functions are.
func (b *bench) told(r api.Ref, before int64) string { return b.toldIn(r, before, 0) }

// deepest is how deep a value is told: it may have itself.
const deepest = 50

func (b *bench) toldIn(r api.Ref, before int64, depth int) string {
	if depth > deepest {
		return ".."
	}
	if r.Kind == api.RefSmall {
		return big.Text(big.Of(r.N))
	}
	t := b.things[r.N]
	all := func(ahead, behind string) string {
		var out []string
		for _, r := range t.Refs {
			out = append(out, b.toldIn(r, before, depth+1))
		}
		return ahead + strings.Join(out, " ") + behind
	}
	known := r.N < before
	switch t.Kind {
	case api.HeapText:
		return short(t.Bytes)
	case api.HeapBig:
		return big.Text(intOf(t))
	case api.HeapReal:
		return fmt.Sprintf("%016x", binary.LittleEndian.Uint64([]byte(t.Bytes)))
	case api.HeapBlock:
		return all("<"+strconv.Itoa(t.Tag)+": ", ">")
	case api.HeapVector:
		return all("[", "]")
	case api.HeapCell:
		if !known {
			return all("cell(", ")")
		}
		return "cell " + strconv.FormatInt(r.N, 10)
	case api.HeapBytes:
		if !known {
			return "bytes " + strconv.Itoa(len(t.Bytes)) + " " + hex.EncodeToString([]byte(t.Bytes[:min(len(t.Bytes), 20)]))
		}
		return "bytes " + strconv.FormatInt(r.N, 10)
	}
	return "kind " + strconv.Itoa(t.Kind) + " " + strconv.FormatInt(r.N, 10)
}

// decimal is a small number as it is told.
func decimal(n int) string { return big.Text(big.Of(int64(n))) }

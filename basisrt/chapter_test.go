package basisrt

import (
	"encoding/hex"
	"fmt"
	"math"
	"slices"
	"strconv"
	"strings"

	"smithy/api"
	"smithy/big"
	"smithy/prim"
)

// chapter does primitives as the interpreters do them, with values of a bench as they have them.
type chapter struct {
	*bench
	values  map[int64]prim.Value // by things' numbers
	numbers map[prim.Value]int64 // cells' and bytes' numbers
}

// function is a closure, of which package prim knows nothing.
type function struct{ n int64 }

// value is what the interpreters have for a value of a kind.
func (c chapter) value(r api.Ref, kind byte) prim.Value {
	if r.Kind == api.RefSmall {
		if kind == 'c' || kind == 'l' {
			return prim.Small(r.N)
		}
		return big.Of(r.N)
	}
	if v, met := c.values[r.N]; met {
		return v
	}
	t := c.things[r.N]
	all := func() (out []prim.Value) {
		for _, r := range t.Refs {
			out = append(out, c.value(r, kind))
		}
		return out
	}
	var v prim.Value
	switch t.Kind {
	case api.HeapText:
		v = prim.Text(t.Bytes)
	case api.HeapBig:
		v = intOf(t)
	case api.HeapReal:
		bits, _ := strconv.ParseUint(c.bench.told(r, 0), 16, 64)
		v = prim.Real(bits)
	case api.HeapBytes:
		b := &prim.Bytes{Data: []byte(t.Bytes)}
		v, c.numbers[b] = b, r.N
	case api.HeapCell: // it may hold itself, as others may
		x := &prim.Cell{}
		c.values[r.N], c.numbers[x] = x, r.N
		x.In = c.value(t.Refs[0], kind)
		return x
	case api.HeapVector:
		x := &prim.Vector{}
		c.values[r.N] = x
		x.Items = all()
		return x
	case api.HeapBlock:
		x := &prim.Block{Tag: t.Tag}
		c.values[r.N] = x
		x.Fields = all()
		return x
	default:
		v = function{r.N}
	}
	c.values[r.N] = v
	return v
}

// told is what a value is, as the bench tells it.
func (c chapter) told(v any) string { return c.toldIn(v, 0) }

func (c chapter) toldIn(v any, depth int) string {
	if depth > deepest {
		return ".."
	}
	all := func(l []prim.Value) string {
		var out []string
		for _, v := range l {
			out = append(out, c.toldIn(v, depth+1))
		}
		return strings.Join(out, " ")
	}
	switch x := v.(type) {
	case api.Int:
		return big.Text(x)
	case prim.Small:
		return decimal(int(x))
	case prim.Real:
		return fmt.Sprintf("%016x", uint64(x))
	case prim.Text:
		return short(string(x))
	case *prim.Block:
		return "<" + strconv.Itoa(x.Tag) + ": " + all(x.Fields) + ">"
	case *prim.Vector:
		return "[" + all(x.Items) + "]"
	case *prim.Cell:
		if n, known := c.numbers[x]; known {
			return "cell " + strconv.FormatInt(n, 10)
		}
		return "cell(" + c.toldIn(x.In, depth+1) + ")"
	case *prim.Bytes:
		if n, known := c.numbers[x]; known {
			return "bytes " + strconv.FormatInt(n, 10)
		}
		return "bytes " + strconv.Itoa(len(x.Data)) + " " + hex.EncodeToString(x.Data[:min(len(x.Data), 20)])
	case function:
		return "kind 8 " + strconv.FormatInt(x.n, 10)
	}
	return fmt.Sprintf("%T", v)
}

// outcome is what a primitive comes to: what it answers, which exception it raises, or that it is stuck.
func (c chapter) outcome(name string, args []prim.Value) (out string) {
	run := prim.New(api.World{}, 1<<40)
	defer func() {
		switch x := recover().(type) {
		case nil:
		case prim.Raised:
			for n, e := range run.BuiltIn() {
				if x.Value.(*prim.Block).Fields[0] == prim.Value(e) {
					out = raisesOf(n)
				}
			}
		case prim.Over:
			out = "over " + strconv.Itoa(x.Status) + " " + strconv.Itoa(x.Code)
		default:
			panic(x)
		}
	}()
	answer := prim.Primitives()[name].Do(run, args)
	if x, is := answer.(prim.Real); is && strings.Contains("radd rsub rmul rdiv", name) && math.IsNaN(math.Float64frombits(uint64(x))) {
		answer = prim.Real(theNaN) // where bits are told it is this one
	}
	return c.told(answer)
}

func raisesOf(n int) string { return "raises " + strconv.Itoa(n) }

// interpreted is what the interpreters make of a primitive of values of the bench; and what its first argument has then, if that may
// be set.
func (b *bench) interpreted(name string, args []api.Ref) (string, string) {
	c := chapter{b, map[int64]prim.Value{}, map[prim.Value]int64{}}
	var l []prim.Value
	kinds := kindsOf()[name]
	if name == "eq" && !b.hasBig(args...) {
		kinds = "cc" // a small number and a block are not the same; of an integer and a block nothing is said
	}
	for i, r := range args {
		l = append(l, c.value(r, kinds[i]))
	}
	out := c.outcome(name, l)
	switch x := l[0].(type) {
	case *prim.Cell:
		return out, c.told(x.In)
	case *prim.Bytes:
		return out, string(x.Data)
	}
	return out, ""
}

// content is what a value has that may be set.
func (b *bench) content(r api.Ref, before int64) string {
	if r.Kind == api.RefSmall {
		return ""
	}
	switch t := b.things[r.N]; t.Kind {
	case api.HeapCell:
		return b.told(t.Refs[0], before)
	case api.HeapBytes:
		return t.Bytes
	}
	return ""
}

// hasBig tells whether some values are great integers, or have such.
func (b *bench) hasBig(of ...api.Ref) bool {
	l, seen := slices.Clone(of), map[int64]bool{}
	for len(l) > 0 {
		r := l[len(l)-1]
		l = l[:len(l)-1]
		if r.Kind == api.RefSmall || seen[r.N] {
			continue
		}
		if b.things[r.N].Kind == api.HeapBig {
			return true
		}
		seen[r.N] = true
		l = append(l, b.things[r.N].Refs...)
	}
	return false
}

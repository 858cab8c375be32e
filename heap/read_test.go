package heap

import (
	"fmt"
	"math"
	"reflect"
	"slices"
	"strings"
	"testing"

	"smithy/api"
)

// readAs holds that memory is read as a graph; slowly, too.
func readAs(t *testing.T, what string, b []byte, at uint64, roots []uint64, want api.Graph) {
	t.Helper()
	g, e := Read(b, at, roots)
	if e != api.OK {
		t.Errorf("%s: %v", what, e)
	}
	equals(t, what, g, want)
	if s, e := slowRead(b, at, roots); e != api.OK || !reflect.DeepEqual(s, want) {
		t.Errorf("%s, slowly: %v, %v", what, s, e)
	}
	if Check(g) != api.OK {
		t.Errorf("%s: what is read may not be", what)
	}
}

// unread holds that there is no graph; slowly, too.
func unread(t *testing.T, what string, b []byte, at uint64, roots []uint64, want api.Errno) {
	t.Helper()
	if g, e := Read(b, at, roots); e != want || g.Things != nil || g.Roots != nil {
		t.Errorf("%s: %v, %v", what, g, e)
	}
	if g, e := slowRead(b, at, roots); e != want {
		t.Errorf("%s, slowly: %v, %v", what, g, e)
	}
}

// base is where memory begins in most of these tests.
const base = 0x5000

// P14.4: words that are small numbers, whatever memory is there.
func TestReadSmall(t *testing.T) {
	words := []uint64{1, 3, 11, math.MaxUint64, math.MaxUint64 - 2, math.MaxInt64, 1<<63 + 1, 1<<63 + 3, base + 1}
	want := graph("0 1 5 -1 -2 4611686018427387903 -4611686018427387904 -4611686018427387903 10240")
	for _, b := range [][]byte{nil, make([]byte, 7), make([]byte, 100)} {
		readAs(t, "small", b, base, words, want)
	}
	inside := slices.Concat([]uint64{9<<24 | 13}, words)
	want.Things = []api.Thing{{Kind: api.HeapVector, Refs: want.Roots}}
	want.Roots = refs("@0")
	readAs(t, "a vector of small ones", inBytes(inside...), base, []uint64{base}, want)
}

// P14.4: a thing of each kind, marked or not.
func TestReadKinds(t *testing.T) {
	for _, mark := range []uint64{0, 32} {
		b := inBytes(
			0x3020103|mark, 0xfffffffffffffffd, base+56, 1, // 0
			0x5|mark,                           // 32
			0x8000005|mark, 0x3837363534333231, // 40
			0x100000f|mark, 0x31, // 56
			0x100000b|mark, base+32, // 72
			0xd|mark,                       // 88
			0x200000d|mark, base, base+136, // 96
			0x1000011|mark, 0x400000, // 120
			0x3000011|mark, 0x43ffff0, base+136, 13, // 136
			0xc000107|mark, 0x200000001, 3, // 168
			0x8000009|mark, 0x0807060504030201, // 192
		)
		var roots []uint64
		for _, n := range []uint64{0, 32, 40, 56, 72, 88, 96, 120, 136, 168, 192} {
			roots = append(roots, base+n)
		}
		g := graph("@0 @1 @2 @3 @4 @5 @6 @7 @8 @9 @10",
			"block 513 -2 @3 0", "text", "text 12345678", "bytes 1", "cell @1", "vector", "vector @0 @8", "closure 0", "closure 4194303 @8 6")
		g.Things = append(g.Things, api.Thing{Kind: api.HeapBig, Tag: 1, Bytes: limbs(1, 2, 3)}, api.Thing{Kind: api.HeapReal, Bytes: "\x01\x02\x03\x04\x05\x06\x07\x08"})
		readAs(t, "all kinds", b, base, roots, g)
		readAs(t, "some", b, base, []uint64{base + 72, 5, base, base + 72}, graph("@0 2 @1 @0", "cell @2", "block 513 -2 @3 0", "text", "bytes 1"))
	}
}

// P14.4: even words that are no thing's address, as roots and as values.
func TestReadAddresses(t *testing.T) {
	texts := inBytes(5, 5, 5, 5) // a text without bytes at each word
	for _, x := range []struct {
		place uint64
		may   bool
	}{
		{base, true}, {base + 8, true}, {base + 24, true}, {base + 32, false}, {base + 40, false}, {base - 8, false}, {0, false}, {8, false},
		{base + 2, false}, {base + 4, false}, {base + 6, false}, {base + 10, false}, {base + 12, false}, {base + 26, false}, {base + 28, false}, {base + 30, false},
		{1 << 63, false}, {math.MaxUint64 - 1, false}, {math.MaxUint64 - 7, false}, {base + 1<<32, false}, {base + 1<<63, false}, {1<<64 - base, false},
	} {
		what := fmt.Sprintf("%x", x.place)
		// beside it in memory a cell that holds it
		b := slices.Concat(texts, inBytes(0x100000b, x.place))
		near := b[:32:32]
		if x.may {
			readAs(t, what, near, base, []uint64{x.place}, graph("@0", "text"))
			readAs(t, what, b, base, []uint64{1, base + 32, 3}, graph("0 @0 1", "cell @1", "text"))
		} else {
			unread(t, what, near, base, []uint64{x.place}, api.ErrLayout)
			unread(t, what, near, base, []uint64{base, 1, x.place}, api.ErrLayout)
			if x.place != base+32 {
				unread(t, what, b, base, []uint64{1, base + 32, 3}, api.ErrLayout)
			}
		}
	}
	for n := range uint64(17) { // a text at whatever address: it is one only where 8 divides it
		b := slices.Concat(make([]byte, n), inBytes(5, 0))
		switch {
		case n%2 == 1:
			readAs(t, fmt.Sprint(n, " bytes further"), b, base, []uint64{base + n}, graph(fmt.Sprint((base+n)/2)))
		case n%8 == 0:
			readAs(t, fmt.Sprint(n, " bytes further"), b, base, []uint64{base + n}, graph("@0", "text"))
		default:
			unread(t, fmt.Sprint(n, " bytes further"), b, base, []uint64{base + n}, api.ErrLayout)
		}
	}
	readAs(t, "at 0", texts, 0, []uint64{0, 8}, graph("@0 @1", "text", "text"))
	unread(t, "no memory", nil, base, []uint64{base}, api.ErrLayout)
	unread(t, "no memory", nil, 0, []uint64{0}, api.ErrLayout)
}

// P14.4: a thing must lie within the memory with all its bytes.
func TestReadEnd(t *testing.T) {
	for kind, x := range plain() {
		if kind == 0 {
			continue
		}
		g := api.Graph{Things: []api.Thing{x}, Roots: refs("@0")}
		b, roots, e := Lay(g, base)
		if e != api.OK {
			t.Fatal(e)
		}
		readAs(t, fmt.Sprint("kind ", kind), b, base, roots, g)
		for n := range b {
			unread(t, fmt.Sprint("kind ", kind, ", ", n, " bytes"), b[:n:n], base, roots, api.ErrLayout)
			// what lies beyond b is not looked at, though it is there
			unread(t, fmt.Sprint("kind ", kind, ", ", n, " bytes"), b[:n], base, roots, api.ErrLayout)
		}
		for n := range 9 {
			more := append(slices.Clone(b), strings.Repeat("\xff", n)...)
			readAs(t, fmt.Sprint("kind ", kind, ", more"), more, base, roots, g)
		}
	}
}

// P14.4: lengths that reach beyond the memory, and those that just don't.
func TestReadLengths(t *testing.T) {
	for kind := 1; kind <= 8; kind++ {
		lengths := []uint64{17, 24, 25, 31, 32, 33, 1 << 20, 1 << 32, 1<<32 + 2, 1 << 37, 1<<37 + 1, 1 << 39, 1<<40 - 1, 1<<40 - 8}
		if !hasBytes(kind) {
			lengths = append(lengths, 3, 4, 5, 16)
		}
		for _, n := range lengths {
			b := inBytes(uint64(1+2*kind)|n<<24, 0x400010, 0x4000000000000001)
			unread(t, fmt.Sprint("kind ", kind, ", length ", n), b, base, []uint64{base}, api.ErrLayout)
		}
	}
	for _, kind := range []int{api.HeapText, api.HeapBytes, api.HeapBig} {
		g := api.Graph{Things: []api.Thing{{Kind: kind, Bytes: "\x01\x00\x00\x00\x00\x00\x00\x00\x01\x00\x00\x00\x00\x00\x00\x01"}}, Roots: refs("@0")}
		readAs(t, fmt.Sprint("kind ", kind, ", length 16"), inBytes(uint64(1+2*kind)|16<<24, 1, 1<<56+1), base, []uint64{base}, g)
	}
	two := inBytes(0x200000d, 1, 3)
	readAs(t, "a vector of two", two, base, []uint64{base}, graph("@0", "vector 0 1"))
	unread(t, "a vector of three", inBytes(0x300000d, 1, 3), base, []uint64{base}, api.ErrLayout)
	unread(t, "a block of three", inBytes(0x3000003, 1, 3), base, []uint64{base}, api.ErrLayout)
}

// P14.4: bits of a header, each by itself.
func TestReadHeaders(t *testing.T) {
	inside := []uint64{0x400010, 0x4000000000000001, 0, 0, 0, 0}
	for kind := range 16 {
		for _, tag := range []uint64{0, 1, 2, 255, 256, 65535} {
			for length := range uint64(10) {
				for low := range uint64(16) { // the bits 0, 5, 6 and 7
					head := low&1 | low>>1<<5 | uint64(kind)<<1 | tag<<8 | length<<24
					b := inBytes(append([]uint64{head}, inside...)...)
					g, e := Read(b, base-64, []uint64{base - 64})
					s, f := slowRead(b, base-64, []uint64{base - 64})
					if e != f || !reflect.DeepEqual(g, s) {
						t.Fatalf("%x: %v, %v; slowly %v, %v", head, g, e, s, f)
					}
					if (low&1 == 0 || low>>2 != 0 || kind == 0 || kind > 8) && e != api.ErrLayout {
						t.Fatalf("%x: %v, %v", head, g, e)
					}
				}
			}
		}
	}
	for _, bit := range []uint64{1 << 0, 1 << 6, 1 << 7} {
		unread(t, fmt.Sprint("bit ", bit), inBytes(0x3000005^bit, 0x636261), base, []uint64{base}, api.ErrLayout)
	}
	readAs(t, "the mark", inBytes(0x3000005^1<<5, 0x636261), base, []uint64{base}, graph("@0", "text abc"))
}

// P14.4: Tags of headers.
func TestReadTags(t *testing.T) {
	for kind, x := range plain() {
		if kind == 0 {
			continue
		}
		x.Tag = 0
		b, roots, e := Lay(api.Graph{Things: []api.Thing{x}, Roots: refs("@0")}, base)
		if e != api.OK {
			t.Fatal(e)
		}
		for _, tag := range []int{0, 1, 2, 3, 128, 255, 256, 257, 32768, 65534, 65535} {
			b[1], b[2] = byte(tag), byte(tag>>8)
			if tag == 0 || kind == api.HeapBlock || kind == api.HeapBig && tag == 1 {
				x.Tag = tag
				readAs(t, fmt.Sprint("kind ", kind, ", Tag ", tag), b, base, roots, api.Graph{Things: []api.Thing{x}, Roots: refs("@0")})
			} else {
				unread(t, fmt.Sprint("kind ", kind, ", Tag ", tag), b, base, roots, api.ErrLayout)
			}
		}
	}
}

// P14.4: what its bytes say must be a thing that may be.
func TestReadForms(t *testing.T) {
	one := func(words ...uint64) []byte { return inBytes(words...) }
	for what, b := range map[string][]byte{
		"a cell of none":           one(0xb, 1, 1),
		"a cell of two":            one(0x200000b, 1, 1),
		"a real of 7":              one(0x7000009, 0, 0),
		"a real of 9":              one(0x9000009, 0, 0),
		"a real of 16":             one(0x10000009, 0, 0),
		"a real of none":           one(0x9, 0, 0),
		"a big of none":            one(0x7, 0, 0),
		"a big of a limb":          one(0x4000007, 0xffffffff),
		"a big of 5 bytes":         one(0x5000007, 0xffffffffff),
		"a big of 9 bytes":         one(0x9000007, math.MaxUint64, 0xff),
		"a last limb of 0":         one(0x8000007, 0xffffffff),
		"a third limb of 0":        one(0xc000007, math.MaxUint64, 0),
		"a small number":           one(0x8000007, 1<<62-1),
		"a small number below 0":   one(0x8000107, 1<<62),
		"a small number's negated": one(0x8000107, 1<<62-1),
	} {
		unread(t, what, b, base, []uint64{base}, api.ErrLayout)
	}
	for _, x := range []struct {
		b []byte
		t api.Thing
	}{
		{one(0x8000007, 1<<62), api.Thing{Kind: api.HeapBig, Bytes: limbs(0, 1<<30)}},
		{one(0x8000107, 1<<62+1), api.Thing{Kind: api.HeapBig, Tag: 1, Bytes: limbs(1, 1<<30)}},
		{one(0xc000007, 0, 1), api.Thing{Kind: api.HeapBig, Bytes: limbs(0, 0, 1)}},
		{one(0x8000009, 0), api.Thing{Kind: api.HeapReal, Bytes: "\x00\x00\x00\x00\x00\x00\x00\x00"}},
	} {
		readAs(t, fmt.Sprint(x.t), x.b, base, []uint64{base}, api.Graph{Things: []api.Thing{x.t}, Roots: refs("@0")})
	}
}

// P14.4: bytes of 0 behind Bytes.
func TestReadPadding(t *testing.T) {
	for n := range 20 {
		for _, kind := range []int{api.HeapText, api.HeapBytes} {
			g := api.Graph{Things: []api.Thing{{Kind: kind, Bytes: strings.Repeat("x", n)}}, Roots: refs("@0")}
			b, roots, _ := Lay(g, base)
			readAs(t, fmt.Sprint(n), b, base, roots, g)
			for i := 8 + n; i < len(b); i++ {
				for _, x := range []byte{1, 128, 255} {
					b[i] = x
					unread(t, fmt.Sprint(n, " bytes, ", x, " at ", i), b, base, roots, api.ErrLayout)
				}
				b[i] = 0
			}
		}
	}
	three := inBytes(0xc000007, 0, 1)
	three[8+12] = 1
	unread(t, "behind a big's limbs", three, base, []uint64{base}, api.ErrLayout)
}

// P14.4: closures.
func TestReadClosures(t *testing.T) {
	for _, x := range []struct {
		word uint64
		f    int // -1: none
	}{
		{0x400000, 0}, {0x400010, 1}, {0x4ffff0, 65535}, {0x500000, 65536}, {0x43fffe0, 1<<22 - 2}, {0x43ffff0, 1<<22 - 1}, {0x4400000, -1}, {0x4400010, -1},
		{0x3ffff0, -1}, {0x3ffff8, -1}, {0, -1}, {16, -1}, {1, -1}, {math.MaxUint64, -1}, {math.MaxUint64 - 15, -1}, {1 << 63, -1}, {1<<63 + 0x400000, -1}, {1<<32 + 0x400000, -1},
		{0x400001, -1}, {0x400002, -1}, {0x400004, -1}, {0x400008, -1}, {0x40000f, -1}, {0x400011, -1}, {0x43ffff1, -1}, {0x43ffff8, -1}, {0x43fffff, -1},
	} {
		b := inBytes(0x1000011, x.word, 0x3000011, x.word, 7, base)
		what := fmt.Sprintf("%x", x.word)
		if x.f < 0 {
			unread(t, what, b, base, []uint64{base}, api.ErrLayout)
			unread(t, what, b, base, []uint64{base + 16}, api.ErrLayout)
		} else {
			readAs(t, what, b, base, []uint64{base}, graph("@0", fmt.Sprint("closure ", x.f)))
			readAs(t, what, b, base, []uint64{base + 16}, graph("@0", fmt.Sprint("closure ", x.f, " 3 @1"), fmt.Sprint("closure ", x.f)))
		}
	}
	unread(t, "of length 0", inBytes(0x11, 0x400000), base, []uint64{base}, api.ErrLayout)
	unread(t, "of length 0 at the end", inBytes(0x11), base, []uint64{base}, api.ErrLayout)
	for _, tag := range []uint64{1, 2, 256, 65535} {
		unread(t, fmt.Sprint("Tag ", tag), inBytes(0x1000011|tag<<8, 0x400000+16*tag), base, []uint64{base}, api.ErrLayout)
		unread(t, fmt.Sprint("Tag ", tag), inBytes(0x1000011|tag<<8, 0x400000), base, []uint64{base}, api.ErrLayout)
	}
	unread(t, "whose value is none", inBytes(0x2000011, 0x400000, 0x400000), base, []uint64{base}, api.ErrLayout)
}

// P14.4: nothing is said of things that lie one across another: each is read as what it is.
func TestReadAcross(t *testing.T) {
	ring := inBytes(0x300000d, 7, 0x100000b, base+16)
	readAs(t, "a cell within a vector", ring, base, []uint64{base}, graph("@0", "vector 3 8388613 @1", "cell @1"))
	text := inBytes(0x10000005, 0x1000005, 0x61)
	readAs(t, "a text over another one", text, base, []uint64{base, base + 8}, api.Graph{
		Things: []api.Thing{{Kind: api.HeapText, Bytes: string(text[8:])}, {Kind: api.HeapText, Bytes: "a"}}, Roots: refs("@0 @1")})
	unread(t, "only its inside doesn't fit", text, base, []uint64{base, base + 16}, api.ErrLayout)
	cells := inBytes(0x100000b, 0x100000b, 0x100000b, 1)
	readAs(t, "cells one across another", cells, base, []uint64{base, base + 8, base + 16}, graph("@0 @1 @2", "cell 8388613", "cell 8388613", "cell 0"))
}

// P14.4: what nothing reaches isn't looked at; what is reached is, wherever it is reached from.
func TestReadReached(t *testing.T) {
	bad := []uint64{0, math.MaxUint64, 0xb, 6}
	b := inBytes(slices.Concat(bad, []uint64{0x200000d, base + 56, 1}, []uint64{0x100000b, base + 32}, bad)...)
	readAs(t, "between what doesn't fit", b, base, []uint64{base + 32}, graph("@0", "vector @1 0", "cell @0"))
	b = inBytes(0x100000b, base+16, 0x100000b, base+32, 0x100000b, base+48, 0xb, 1)
	for i := range uint64(4) {
		unread(t, "the last one", b, base, []uint64{base + 16*i}, api.ErrLayout)
	}
	b[48+3] = 1
	readAs(t, "the last one", b, base, []uint64{base}, graph("@0", "cell @1", "cell @2", "cell @3", "cell 0"))
}

// P14.4: where memory may not be; ErrArg comes ahead of ErrLayout.
func TestReadPlaces(t *testing.T) {
	for _, n := range []int{0, 1, 8, 12, 16, 24} {
		size := uint64(n)
		end := 1<<63 - size
		for _, x := range []struct {
			at  uint64
			may bool
		}{
			{0, true}, {8, true}, {1 << 62, true}, {end &^ 7, true}, {end&^7 + 8, false}, {1 << 63, n == 0}, {1<<63 + 8, false}, {1<<64 - 8, false}, {-size &^ 7, n == 0}, {-size&^7 - 8, false},
			{1, false}, {4, false}, {end&^7 - 4, false}, {end | 1, false}, {math.MaxUint64, false},
		} {
			b := make([]byte, n)
			what := fmt.Sprintf("%d bytes at %x", n, x.at)
			if x.may {
				readAs(t, what, b, x.at, []uint64{1}, graph("0"))
				unread(t, what, b, x.at, []uint64{x.at}, api.ErrLayout)
			} else {
				unread(t, what, b, x.at, []uint64{1}, api.ErrArg)
				unread(t, what, b, x.at, nil, api.ErrArg)
				unread(t, what, b, x.at, []uint64{2}, api.ErrArg)
			}
		}
	}
	const last = 1<<63 - 16
	readAs(t, "at the end", inBytes(0x100000b, last), last, []uint64{last}, graph("@0", "cell @0"))
	unread(t, "behind the end", inBytes(0x100000b, last), last, []uint64{1 << 63}, api.ErrLayout)
}

package heap

import (
	"fmt"
	"math"
	"strings"
	"testing"

	"smithy/api"
)

// limbs are a magnitude's, the lowest one first.
func limbs(l ...uint32) string {
	var out []byte
	for _, x := range l {
		out = append(out, byte(x), byte(x>>8), byte(x>>16), byte(x>>24))
	}
	return string(out)
}

var big = limbs(0, 1<<31) // 2^63

// plain is a thing of each kind that may be, by kinds.
func plain() []api.Thing {
	return []api.Thing{
		api.HeapBlock:   {Kind: api.HeapBlock, Tag: 7, Refs: refs("1 2 3")},
		api.HeapText:    {Kind: api.HeapText, Bytes: "text"},
		api.HeapBig:     {Kind: api.HeapBig, Tag: 1, Bytes: big},
		api.HeapReal:    {Kind: api.HeapReal, Bytes: "12345678"},
		api.HeapCell:    {Kind: api.HeapCell, Refs: refs("4")},
		api.HeapVector:  {Kind: api.HeapVector, Refs: refs("5 6")},
		api.HeapBytes:   {Kind: api.HeapBytes, Bytes: "123456789"},
		api.HeapClosure: {Kind: api.HeapClosure, Tag: 70000, Refs: refs("8")},
	}
}

// alone holds a thing that has no things as values: within a graph, wherever it stands, reached or not.
func alone(t *testing.T, what string, x api.Thing, may bool) {
	t.Helper()
	other := made("text other")
	for i, g := range []api.Graph{
		{Things: []api.Thing{x}},
		{Things: []api.Thing{x}, Roots: refs("@0")},
		{Things: []api.Thing{other, x, other}, Roots: refs("1 @1")},
		{Things: []api.Thing{other, other, x}, Roots: refs("@0 @1")},
		{Things: []api.Thing{x, other, other}, Roots: refs("@2")},
	} {
		if may {
			taken(t, fmt.Sprint(what, ", ", i), g)
		} else {
			refused(t, fmt.Sprint(what, ", ", i), g)
		}
	}
	if !may && (Size(x) != 0 || Header(x) != 0) {
		t.Errorf("%s: size %d, header %x", what, Size(x), Header(x))
	}
	if may && (Size(x) < 8 || Size(x)%8 != 0 || Header(x)%2 != 1) {
		t.Errorf("%s: size %d, header %x", what, Size(x), Header(x))
	}
}

// P14.1: sizes and headers, number by number.
func TestSizes(t *testing.T) {
	long := strings.Repeat("x", 1<<24+1)
	many := make([]api.Ref, 1<<24+3)
	for _, x := range []struct {
		what   string
		t      api.Thing
		size   int64
		header uint64
	}{
		{"block", made("block 0"), 8, 0x03},
		{"block of 1", made("block 1 0"), 16, 0x1000103},
		{"block of 3", made("block 65535 0 0 0"), 32, 0x3ffff03},
		{"text", made("text"), 8, 0x05},
		{"text of 1", made("text 1"), 16, 0x1000005},
		{"text of 7", made("text 1234567"), 16, 0x7000005},
		{"text of 8", made("text 12345678"), 16, 0x8000005},
		{"text of 9", made("text 123456789"), 24, 0x9000005},
		{"text of 16", made("text 1234567890123456"), 24, 0x10000005},
		{"text of many", api.Thing{Kind: api.HeapText, Bytes: long}, 1<<24 + 16, 0x1000001000005},
		{"big", api.Thing{Kind: api.HeapBig, Bytes: big}, 16, 0x8000007},
		{"big below 0", api.Thing{Kind: api.HeapBig, Tag: 1, Bytes: big}, 16, 0x8000107},
		{"big of 3 limbs", api.Thing{Kind: api.HeapBig, Bytes: limbs(0, 0, 1)}, 24, 0xc000007},
		{"big of 4 limbs", api.Thing{Kind: api.HeapBig, Tag: 1, Bytes: limbs(0, 0, 0, 1)}, 24, 0x10000107},
		{"real", api.Thing{Kind: api.HeapReal, Bytes: "12345678"}, 16, 0x8000009},
		{"cell", made("cell 0"), 16, 0x100000b},
		{"vector", made("vector"), 8, 0x0d},
		{"vector of 2", made("vector 1 2"), 24, 0x200000d},
		{"vector of many", api.Thing{Kind: api.HeapVector, Refs: many}, 8*(1<<24+3) + 8, 0x100000300000d},
		{"bytes", made("bytes"), 8, 0x0f},
		{"bytes of 5", made("bytes 12345"), 16, 0x500000f},
		{"closure", made("closure 0"), 16, 0x1000011},
		{"closure of 2", made("closure 4194303 1 2"), 32, 0x3000011},
	} {
		if Size(x.t) != x.size || Header(x.t) != x.header {
			t.Errorf("%s: size %d, header %x", x.what, Size(x.t), Header(x.t))
		}
	}
}

// P14.1: Tags within their bounds and beyond.
func TestTags(t *testing.T) {
	greatest := []int{api.HeapBlock: 65535, api.HeapBig: 1, api.HeapClosure: 1<<22 - 1}
	for kind, x := range plain() {
		if kind == 0 {
			continue
		}
		for _, tag := range []int{0, 1, greatest[kind], greatest[kind] - 1, greatest[kind] + 1, -1, 2, 255, 256, 65535, 65536, 1<<22 - 1, 1 << 22, 1 << 24, 1 << 32, 1 << 40, math.MinInt, math.MaxInt} {
			x.Tag = tag
			alone(t, fmt.Sprint("kind ", kind, ", Tag ", tag), x, 0 <= tag && tag <= greatest[kind])
		}
	}
}

// P14.1: Bytes and Refs where there are none.
func TestStrays(t *testing.T) {
	for kind, x := range plain() {
		if kind == 0 {
			continue
		}
		alone(t, fmt.Sprint("kind ", kind), x, true)
		if x.Refs == nil {
			x.Refs = []api.Ref{}
			alone(t, fmt.Sprint("kind ", kind, ", empty Refs"), x, true)
			for _, l := range []string{"0", "1 2", "1 2 3 4 5 6 7 8 9"} {
				x.Refs = refs(l)
				alone(t, fmt.Sprint("kind ", kind, ", Refs ", l), x, false)
			}
		} else {
			for _, b := range []string{"\x00", "x", "12345678", big} {
				x.Bytes = b
				alone(t, fmt.Sprint("kind ", kind, ", Bytes ", b), x, false)
			}
		}
	}
	x := made("cell")
	alone(t, "a cell of none", x, false)
	x.Bytes = "12345678"
	alone(t, "a cell of bytes", x, false)
	alone(t, "a cell of two", made("cell 1 2"), false)
	alone(t, "a cell of one", made("cell 1"), true)
	for n := range 20 {
		alone(t, fmt.Sprint("a real of ", n), api.Thing{Kind: api.HeapReal, Bytes: strings.Repeat("x", n)}, n == 8)
		alone(t, fmt.Sprint("a text of ", n), api.Thing{Kind: api.HeapText, Bytes: strings.Repeat("\x00", n)}, true)
		alone(t, fmt.Sprint("bytes of ", n), api.Thing{Kind: api.HeapBytes, Bytes: strings.Repeat("\xff", n)}, true)
	}
	for _, b := range []string{strings.Repeat("\x00", 8), strings.Repeat("\xff", 8), "\x00\x00\x00\x00\x00\x00\xf8\x7f"} {
		alone(t, "a real", api.Thing{Kind: api.HeapReal, Bytes: b}, true)
	}
}

// P14.1: kinds that there aren't, with whatever a thing of some kind has.
func TestKinds(t *testing.T) {
	for _, kind := range []int{0, -1, 9, 10, 15, 16, 17, 24, 33, -7, -8, 256 + 1, 1<<32 + 1, math.MinInt, math.MaxInt} {
		for _, x := range plain() {
			x.Kind = kind
			alone(t, fmt.Sprint("kind ", kind), x, false)
			x.Tag = 0
			alone(t, fmt.Sprint("kind ", kind, ", no Tag"), x, false)
		}
	}
}

// P14.1: integers that are no small ones.
func TestBigs(t *testing.T) {
	for _, x := range []struct {
		bytes        string
		above, below bool // may it be, from 0 on and below?
	}{
		{"", false, false},
		{limbs(0), false, false},
		{limbs(1), false, false},
		{limbs(math.MaxUint32), false, false},
		{limbs(0, 0), false, false},
		{limbs(5, 0), false, false},
		{limbs(0, 1), false, false},
		{limbs(math.MaxUint32, 1<<30-1), false, false},
		{limbs(0, 1<<30), true, false},
		{limbs(1, 1<<30), true, true},
		{limbs(1<<31, 1<<30), true, true},
		{limbs(0, 1<<30+1), true, true},
		{limbs(0, 1<<31), true, true},
		{limbs(math.MaxUint32, math.MaxUint32), true, true},
		{limbs(math.MaxUint32, math.MaxUint32, 0), false, false},
		{limbs(0, 0, 0), false, false},
		{limbs(0, 0, 1), true, true},
		{limbs(0, 0, 1<<24), true, true},
		{limbs(0, 0, 1<<8), true, true},
		{limbs(0, 0, 1<<16), true, true},
		{limbs(0, 1<<30, 0), false, false},
		{limbs(0, 0, 0, 1), true, true},
		{limbs(1, 2, 3, 0), false, false},
		{"\xff", false, false},
		{"\xff\xff\xff\xff\xff", false, false},
		{"\xff\xff\xff\xff\xff\xff\xff", false, false},
		{"\xff\xff\xff\xff\xff\xff\xff\xff\xff", false, false},
		{"\xff\xff\xff\xff\xff\xff\xff\xff\xff\xff", false, false},
		{"\xff\xff\xff\xff\xff\xff\xff\xff\xff\xff\xff", false, false},
		{"\xff\xff\xff\xff\xff\xff\xff\xff\xff\xff\xff\xff", true, true},
		{strings.Repeat("\x00", 4092) + "\x01\x00\x00\x00", true, true},
		{strings.Repeat("\xff", 4096) + "\x00\x00\x00\x00", false, false},
	} {
		alone(t, fmt.Sprintf("%x", x.bytes), api.Thing{Kind: api.HeapBig, Bytes: x.bytes}, x.above)
		alone(t, fmt.Sprintf("-%x", x.bytes), api.Thing{Kind: api.HeapBig, Tag: 1, Bytes: x.bytes}, x.below)
		for _, tag := range []int{-1, 2} {
			alone(t, fmt.Sprintf("Tag %d, %x", tag, x.bytes), api.Thing{Kind: api.HeapBig, Tag: tag, Bytes: x.bytes}, false)
		}
	}
}

// around are graphs of three things in which v stands as one value, in each place where values may stand.
func around(v api.Ref) []api.Graph {
	var out []api.Graph
	for _, l := range [][]api.Ref{{v}, {v, small(0)}, {small(0), v}, {thing(1), v, v}} {
		g := graph("", "text a", "text b", "text c")
		g.Roots = l
		out = append(out, g)
		for i := range 3 {
			for _, kind := range []int{api.HeapBlock, api.HeapVector, api.HeapClosure, api.HeapCell} {
				if kind == api.HeapCell && len(l) != 1 {
					continue
				}
				for _, roots := range []string{"", "@0 @1 @2"} {
					g := graph(roots, "text a", "text b", "text c")
					g.Things[i] = api.Thing{Kind: kind, Refs: l}
					out = append(out, g)
				}
			}
		}
	}
	return out
}

// P14.1: values, in Refs and in Roots.
func TestValues(t *testing.T) {
	values := []struct {
		v   api.Ref
		may bool
	}{
		{small(0), true}, {small(-1), true}, {small(3), true},
		{small(-1 << 62), true}, {small(-1<<62 + 1), true}, {small(-1<<62 - 1), false}, {small(math.MinInt64), false},
		{small(1<<62 - 1), true}, {small(1<<62 - 2), true}, {small(1 << 62), false}, {small(math.MaxInt64), false},
		{thing(0), true}, {thing(2), true}, {thing(3), false}, {thing(4), false}, {thing(-1), false}, {thing(1 << 32), false},
		{thing(math.MinInt64), false}, {thing(math.MaxInt64), false},
	}
	for _, kind := range []int{0, -1, 3, 4, 257, 1<<32 + 1, math.MinInt, math.MaxInt} {
		for _, n := range []int64{0, 1, -1} {
			values = append(values, struct {
				v   api.Ref
				may bool
			}{api.Ref{Kind: kind, N: n}, false})
		}
	}
	for _, x := range values {
		for i, g := range around(x.v) {
			if x.may {
				taken(t, fmt.Sprint(x.v, " in ", i), g)
			} else {
				refused(t, fmt.Sprint(x.v, " in ", i), g)
			}
		}
	}
	refused(t, "a thing of an empty graph", graph("@0"))
	taken(t, "a number of an empty graph", graph("0"))
}

// P14.1: Size and Header look at Refs by number alone.
func TestRefsAside(t *testing.T) {
	for _, v := range []api.Ref{{}, thing(0), thing(-5), thing(math.MaxInt64), small(math.MinInt64), small(math.MaxInt64), {Kind: 9, N: 3}} {
		for kind, x := range plain() {
			if len(x.Refs) == 0 {
				continue
			}
			size, header := Size(x), Header(x)
			for i := range x.Refs {
				x.Refs[i] = v
			}
			if Size(x) != size || Header(x) != header || size == 0 || header == 0 {
				t.Error(kind, v, Size(x), Header(x))
			}
		}
	}
}

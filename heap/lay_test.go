package heap

import (
	"bytes"
	"fmt"
	"math"
	"slices"
	"strings"
	"testing"

	"smithy/api"
)

// laidAs holds that a graph is laid so.
func laidAs(t *testing.T, what string, g api.Graph, at uint64, words, roots []uint64) {
	t.Helper()
	b, r, e := Lay(g, at)
	if e != api.OK || !bytes.Equal(b, inBytes(words...)) || !slices.Equal(r, roots) {
		t.Errorf("%s: %v\n%x, not\n%x\n%x, not %x", what, e, b, inBytes(words...), r, roots)
	}
}

// P14.3: the bytes of each kind, one behind the other, reached or not; the roots' words.
func TestLay(t *testing.T) {
	g := graph("@3 -1 @0 @3 4611686018427387903 -4611686018427387904 @9",
		"block 513 -2 @3 0", "text", "text 12345678", "bytes 1", "cell @1", "vector", "vector @0 @8", "closure 0", "closure 4194303 @8 6")
	g.Things = append(g.Things, api.Thing{Kind: api.HeapBig, Tag: 1, Bytes: limbs(1, 2, 3)}, api.Thing{Kind: api.HeapReal, Bytes: "\x01\x02\x03\x04\x05\x06\x07\x08"})
	const at = 0x7000
	laidAs(t, "all kinds", g, at, []uint64{
		0x3020103, 0xfffffffffffffffd, at + 56, 1, // 0
		0x5,                           // 32
		0x8000005, 0x3837363534333231, // 40
		0x100000f, 0x31, // 56
		0x100000b, at + 32, // 72
		0xd,                         // 88
		0x200000d, at, at + 96 + 40, // 96
		0x1000011, 0x400000, // 120
		0x3000011, 0x43ffff0, at + 136, 13, // 136
		0xc000107, 0x200000001, 3, // 168
		0x8000009, 0x0807060504030201, // 192
	}, []uint64{at + 56, math.MaxUint64, at, at + 56, math.MaxInt64, 1<<63 + 1, at + 168})
	laidAs(t, "no thing", graph("0 1 -1"), 8, nil, []uint64{1, 3, math.MaxUint64})
	laidAs(t, "no root", graph("", "cell @0"), 16, []uint64{0x100000b, 16}, nil)
	laidAs(t, "at 0", graph("@0 @1", "cell @1", "cell @0"), 0, []uint64{0x100000b, 16, 0x100000b, 0}, []uint64{0, 16})
}

// P14.3: bytes of each length.
func TestLayBytes(t *testing.T) {
	for n := range 40 {
		text := strings.Repeat("\xff", n)
		for _, kind := range []int{api.HeapText, api.HeapBytes} {
			g := api.Graph{Things: []api.Thing{{Kind: kind, Bytes: text}, made("cell @0")}, Roots: refs("@1")}
			room := (n + 7) / 8 * 8
			want := slices.Concat(inBytes(uint64(1+2*kind)+uint64(n)<<24), []byte(text), make([]byte, room-n), inBytes(0x100000b, 80))
			b, roots, e := Lay(g, 80)
			if e != api.OK || !bytes.Equal(b, want) || !slices.Equal(roots, []uint64{uint64(80 + 8 + room)}) {
				t.Errorf("%d: %x, %x, %v", n, b, roots, e)
			}
			if int64(8+room) != Size(g.Things[0]) {
				t.Error(n, Size(g.Things[0]))
			}
		}
	}
}

// P14.3: addresses where things may not lie.
func TestLayPlaces(t *testing.T) {
	for _, g := range []api.Graph{{}, graph("5"), graph("@0", "cell @0"), graph("", "text a", "text 123456789", "closure 7 1")} {
		all := uint64(0)
		for _, x := range g.Things {
			all += uint64(Size(x))
		}
		for _, x := range []struct {
			at  uint64
			may bool
		}{
			{0, true}, {8, true}, {1 << 62, true}, {1<<63 - all, true}, {1<<63 - all - 8, true}, {1<<63 - all + 8, false}, {1<<63 + 8, false},
			{1 << 63, all == 0}, {1<<63 - 8, all <= 8}, {1<<64 - 8, false}, {-all - 8, false}, {-all, all == 0}, {3 << 62, false},
			{1, false}, {2, false}, {4, false}, {7, false}, {12, false}, {4095, false}, {1<<63 - all - 4, false}, {1<<63 - 1, false}, {1<<64 - 1, false},
		} {
			b, roots, e := Lay(g, x.at)
			if x.may && (e != api.OK || uint64(len(b)) != all || len(roots) != len(g.Roots)) {
				t.Error(g, x.at, e)
			}
			if !x.may && (e != api.ErrArg || b != nil || roots != nil) {
				t.Error(g, x.at, b, roots, e)
			}
		}
	}
	g := graph("@0 @1", "cell @1", "text")
	const at = 1<<63 - 24
	laidAs(t, "at the end", g, at, []uint64{0x100000b, at + 16, 5}, []uint64{at, at + 16})
}

// P14.3: of two errors ErrGraph comes first.
func TestLayErrors(t *testing.T) {
	for _, at := range []uint64{1, 4, 1<<63 + 8, 1<<63 - 8, math.MaxUint64} {
		if b, roots, e := Lay(graph("@5", "cell 1"), at); e != api.ErrGraph || b != nil || roots != nil {
			t.Error(at, b, roots, e)
		}
	}
}

// R1: what no call can answer is refused, and not tried.
func TestLayTooMuch(t *testing.T) {
	var g api.Graph
	x := api.Thing{Kind: api.HeapText, Bytes: strings.Repeat("x", 1<<16)}
	for range 1 << 18 {
		g.Things = append(g.Things, x)
	}
	if b, roots, e := Lay(g, 8); e != api.ErrArg || b != nil || roots != nil {
		t.Error(len(b), roots, e)
	}
}

// P14.3, P14.5: what is laid has the sizes and the headers that are told.
func TestLaySizes(t *testing.T) {
	for kind, x := range plain() {
		if kind == 0 {
			continue
		}
		b, _, e := Lay(api.Graph{Things: []api.Thing{x}}, 8)
		if e != api.OK || int64(len(b)) != Size(x) || wordOf(b) != Header(x) {
			t.Error(fmt.Sprint("kind ", kind), b, e)
		}
	}
}

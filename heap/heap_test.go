package heap

import (
	"fmt"
	"reflect"
	"slices"
	"strconv"
	"strings"
	"testing"

	"smithy/api"
)

func small(n int64) api.Ref { return api.Ref{Kind: api.RefSmall, N: n} }
func thing(n int64) api.Ref { return api.Ref{Kind: api.RefThing, N: n} }

// refs are values, written as numbers: with @ ahead things, else small ones.
func refs(text string) []api.Ref {
	var out []api.Ref
	for _, f := range strings.Fields(text) {
		n, err := strconv.ParseInt(strings.TrimPrefix(f, "@"), 10, 64)
		if err != nil {
			panic(err)
		}
		if f[0] == '@' {
			out = append(out, thing(n))
		} else {
			out = append(out, small(n))
		}
	}
	return out
}

// made is a thing: block TAG REFS, closure TAG REFS, cell REF, vector REFS, text BYTES, bytes BYTES.
func made(text string) api.Thing {
	kind, rest, _ := strings.Cut(text, " ")
	tagged := func(kind int) api.Thing {
		tag, rest, _ := strings.Cut(rest, " ")
		n, err := strconv.Atoi(tag)
		if err != nil {
			panic(err)
		}
		return api.Thing{Kind: kind, Tag: n, Refs: refs(rest)}
	}
	switch kind {
	case "block":
		return tagged(api.HeapBlock)
	case "closure":
		return tagged(api.HeapClosure)
	case "cell":
		return api.Thing{Kind: api.HeapCell, Refs: refs(rest)}
	case "vector":
		return api.Thing{Kind: api.HeapVector, Refs: refs(rest)}
	case "text":
		return api.Thing{Kind: api.HeapText, Bytes: rest}
	case "bytes":
		return api.Thing{Kind: api.HeapBytes, Bytes: rest}
	}
	panic("no such kind: " + kind)
}

func graph(roots string, things ...string) api.Graph {
	g := api.Graph{Roots: refs(roots)}
	for _, t := range things {
		g.Things = append(g.Things, made(t))
	}
	return g
}

// copied has no memory in common with g.
func copied(g api.Graph) api.Graph {
	out := api.Graph{Roots: slices.Clone(g.Roots), Things: slices.Clone(g.Things)}
	for i := range out.Things {
		out.Things[i].Refs = slices.Clone(out.Things[i].Refs)
	}
	return out
}

// equals holds two graphs against each other; an empty list is a nil one.
func equals(t *testing.T, what string, got, want api.Graph) {
	t.Helper()
	if !reflect.DeepEqual(got, want) {
		t.Errorf("%s:\n%v, not\n%v", what, got, want)
	}
}

// refused holds that a graph may not be: each call says so, and answers nothing else.
func refused(t *testing.T, what string, g api.Graph) {
	t.Helper()
	if e := Check(g); e != api.ErrGraph {
		t.Errorf("%s: %v", what, e)
	}
	if c, e := Canon(g); e != api.ErrGraph || !reflect.DeepEqual(c, api.Graph{}) {
		t.Errorf("%s: Canon %v, %v", what, c, e)
	}
	for _, at := range []uint64{0, 8, 4, 1 << 63, 1<<64 - 8} {
		if b, roots, e := Lay(g, at); e != api.ErrGraph || b != nil || roots != nil {
			t.Errorf("%s: Lay %v, %v, %v", what, b, roots, e)
		}
	}
	if Same(g, g) || Same(g, api.Graph{}) || Same(api.Graph{}, g) {
		t.Errorf("%s: the same", what)
	}
}

func taken(t *testing.T, what string, g api.Graph) {
	t.Helper()
	if e := Check(g); e != api.OK {
		t.Errorf("%s: %v", what, e)
	}
	if _, e := Canon(g); e != api.OK {
		t.Errorf("%s: Canon %v", what, e)
	}
	if _, _, e := Lay(g, 4096); e != api.OK {
		t.Errorf("%s: Lay %v", what, e)
	}
	if !Same(g, g) {
		t.Errorf("%s: not the same", what)
	}
}

// The chapter's examples.
func TestExamples(t *testing.T) {
	if _, roots, e := Lay(graph("5"), 4096); e != api.OK || !slices.Equal(roots, []uint64{11}) {
		t.Error(roots, e)
	}
	g := graph("@0", "text abc")
	b, roots, e := Lay(g, 4096)
	if e != api.OK || string(b) != "\x05\x00\x00\x03\x00\x00\x00\x00abc\x00\x00\x00\x00\x00" || !slices.Equal(roots, []uint64{4096}) {
		t.Error(b, roots, e)
	}
	if Header(g.Things[0]) != 1+4+3<<24 || Size(g.Things[0]) != 16 {
		t.Error(Header(g.Things[0]), Size(g.Things[0]))
	}
	g = graph("@0", "block 2 1 @0")
	b, roots, e = Lay(g, 4096)
	if e != api.OK || string(b) != "\x03\x02\x00\x02\x00\x00\x00\x00\x03\x00\x00\x00\x00\x00\x00\x00\x00\x10\x00\x00\x00\x00\x00\x00" || !slices.Equal(roots, []uint64{4096}) {
		t.Error(b, roots, e)
	}
	if Header(g.Things[0]) != 1+2+2<<8+2<<24 || Size(g.Things[0]) != 24 {
		t.Error(Header(g.Things[0]), Size(g.Things[0]))
	}
	c, e := Canon(graph("@1", "text a", "cell @2", "text c"))
	if e != api.OK {
		t.Error(e)
	}
	equals(t, "Canon", c, graph("@0", "cell @1", "text c"))
	refused(t, "a small Big", api.Graph{Things: []api.Thing{{Kind: api.HeapBig, Bytes: "\x00\x00\x00\x00\x01\x00\x00\x00"}}})
}

// P14.1 to P14.4, R3: of nothing comes nothing, by nil lists.
func TestEmpty(t *testing.T) {
	for i, g := range []api.Graph{{}, {Things: []api.Thing{}, Roots: []api.Ref{}}} {
		what := fmt.Sprint("empty ", i)
		taken(t, what, g)
		c, e := Canon(g)
		if e != api.OK {
			t.Error(what, e)
		}
		equals(t, what, c, api.Graph{})
		b, roots, e := Lay(g, 8)
		if b != nil || roots != nil || e != api.OK {
			t.Error(what, b, roots, e)
		}
		if !Same(g, api.Graph{}) || !Same(api.Graph{}, g) {
			t.Error(what, "not the same")
		}
	}
	for _, b := range [][]byte{nil, {}, {1}, make([]byte, 64)} {
		for _, roots := range [][]uint64{nil, {}} {
			g, e := Read(b, 4096, roots)
			if e != api.OK {
				t.Error(b, e)
			}
			equals(t, "Read", g, api.Graph{})
		}
	}
	g := api.Graph{Things: []api.Thing{{Kind: api.HeapVector, Refs: []api.Ref{}}}, Roots: []api.Ref{thing(0)}}
	c, e := Canon(g)
	if e != api.OK {
		t.Error(e)
	}
	equals(t, "an empty vector", c, graph("@0", "vector"))
	if !Same(g, c) || !Same(c, g) {
		t.Error("an empty list and a nil one are not the same")
	}
}

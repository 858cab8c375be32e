package world_test

import (
	"math/rand"
	"slices"
	"sync"
	"testing"

	"smithy/api"
	"smithy/world"
)

// R3: the list of files is not written, and is not looked at once New has answered.
func TestKeepsNoList(t *testing.T) {
	all := []api.File{{Name: "b", Data: "1"}, {Name: "a", Data: "2"}, {Name: "b", Data: "3"}, {Name: "behind", Data: "4"}}
	files := all[:3]
	before := slices.Clone(all)
	w := world.New(api.World{Stdin: "in", Files: files})
	w.WriteFile("b", "new")
	w.WriteFile("behind", "new")
	if !slices.Equal(all, before) {
		t.Errorf("%+v", all)
	}
	files[0], files[1] = api.File{Name: "x", Data: "x"}, api.File{Name: "y", Data: "y"}
	filed(t, w, api.File{Name: "a", Data: "2"}, api.File{Name: "b", Data: "new"}, api.File{Name: "behind", Data: "new"})
}

// R3: what was answered may be written, and does not change with the world.
func TestSharesNothing(t *testing.T) {
	w := made("one\ntwo", api.File{Name: "f", Data: "abc"}, api.File{Name: "g", Data: "def"})
	w.SysOpen("h", write)
	w.SysWrite(3, "12")
	w.Out("out")
	trace, files, line := w.Trace(), w.Files(), w.Line()
	read, _ := w.ReadFile("h")
	for _, l := range [][]api.Event{w.Trace(), w.Trace()} {
		clear(l[:cap(l)])
	}
	for _, l := range [][]api.File{w.Files(), w.Files()} {
		clear(l[:cap(l)])
	}
	traced(t, w, wrote("h", "12"), out("out"))
	filed(t, w, api.File{Name: "f", Data: "abc"}, api.File{Name: "g", Data: "def"}, api.File{Name: "h", Data: "12"})
	w.Out("more")
	w.SysWrite(3, "3")
	w.SysOpen("h", write)
	w.SysWrite(4, "XYZ")
	w.WriteFile("f", "!!!")
	if !slices.Equal(trace, []api.Event{wrote("h", "12"), out("out")}) {
		t.Errorf("%+v", trace)
	}
	if !slices.Equal(files, []api.File{{Name: "f", Data: "abc"}, {Name: "g", Data: "def"}, {Name: "h", Data: "12"}}) {
		t.Errorf("%+v", files)
	}
	if line != "one\n" || read != "12" {
		t.Errorf("%q, %q", line, read)
	}
}

// R3: an empty list is a nil one.
func TestNilLists(t *testing.T) {
	for _, w := range []*world.World{made(""), made("").Copy(), made("x", []api.File{}...), world.New(api.World{Files: []api.File{{Name: ""}}})} {
		if w.Trace() != nil || w.Files() != nil {
			t.Errorf("%+v, %+v", w.Trace(), w.Files())
		}
	}
}

// R1: worlds that New didn't make answer something, and go on doing so.
func TestWorldsNotMade(t *testing.T) {
	var none *world.World
	for _, w := range []*world.World{none, none.Copy(), {}, new(world.World).Copy()} {
		for range 25 {
			w.SysOpen("f", 0)
			w.SysOpen("f", write)
			w.SysOpen("", -1)
			for fd := int64(-1); fd < 20; fd++ {
				w.SysRead(fd, 1<<63)
				w.SysWrite(fd, "x")
				w.SysWrite(fd, "")
			}
			w.SysClose(5)
			w.Out("o")
			w.Err("e")
			w.Line()
			w.ReadFile("f")
			w.WriteFile("g", "x")
			w.Trace()
			w.Files()
			w = w.Copy()
		}
	}
}

// R1: whatever the numbers are, calls on a world that was made end and answer.
func TestWildNumbers(t *testing.T) {
	r := rand.New(rand.NewSource(4))
	w := made("input", api.File{Name: "f", Data: "data"})
	for range 20000 {
		fd, n, flags := int64(r.Uint64()), r.Uint64(), int64(r.Uint64())
		if s, many := w.SysRead(fd, n); s != "" || many != -9 {
			t.Fatal(fd, n, s, many)
		}
		if a, b, c := w.SysWrite(fd, "x"), w.SysClose(fd), w.SysOpen("f", flags); a != -9 || b != -9 || c != -22 {
			t.Fatal(fd, flags, a, b, c)
		}
	}
}

// R4: many hands at the same time, each with a copy of its own, are answered as one alone is.
func TestManyHands(t *testing.T) {
	first := made("one\ntwo\nthree", api.File{Name: "a", Data: "aaaa"}, api.File{Name: "b", Data: "bb"})
	first.WriteFile("c", "text")
	first.SysOpen("c", write)
	first.SysWrite(3, "going on")
	o := newOracle("", nil)
	run := func(w *world.World) []string {
		r := rand.New(rand.NewSource(5))
		own := o.copied()
		var got []string
		for range 2000 {
			_, answer, _ := someCall(r, w, own)
			got = append(got, answer)
		}
		return got
	}
	want := run(first.Copy())
	var hands sync.WaitGroup
	for range 8 {
		c := first.Copy()
		hands.Go(func() {
			if got := run(c); !slices.Equal(got, want) {
				t.Error("answered otherwise than alone")
			}
		})
	}
	hands.Wait()
	traced(t, first, wrote("c", "text"), wrote("c", "going on"))
}

package world_test

import (
	"math"
	"slices"
	"strings"
	"testing"

	"smithy/api"
	"smithy/world"
)

const write = 577

func out(s string) api.Event         { return api.Event{Kind: api.EventOut, Text: s} }
func err(s string) api.Event         { return api.Event{Kind: api.EventErr, Text: s} }
func wrote(name, s string) api.Event { return api.Event{Kind: api.EventWrite, Name: name, Text: s} }

func made(stdin string, files ...api.File) *world.World {
	return world.New(api.World{Stdin: stdin, Files: files})
}

// is holds what a call answers against what it should.
func is[T comparable](t *testing.T, what string, got, want T) {
	t.Helper()
	if got != want {
		t.Errorf("%s: %v, want %v", what, got, want)
	}
}

func reads(t *testing.T, w *world.World, fd int64, n uint64, want string) {
	t.Helper()
	if s, many := w.SysRead(fd, n); s != want || many != int64(len(want)) {
		t.Errorf("SysRead(%d, %d) = %q, %d, want %q", fd, n, s, many, want)
	}
}

func readsNot(t *testing.T, w *world.World, fd int64) {
	t.Helper()
	for _, n := range []uint64{0, 1, math.MaxUint64} {
		if s, many := w.SysRead(fd, n); s != "" || many != -9 {
			t.Errorf("SysRead(%d, %d) = %q, %d, want -9", fd, n, s, many)
		}
	}
}

func holds(t *testing.T, w *world.World, name, want string) {
	t.Helper()
	if s, there := w.ReadFile(name); s != want || !there {
		t.Errorf("ReadFile(%q) = %q, %v, want %q", name, s, there, want)
	}
}

func traced(t *testing.T, w *world.World, want ...api.Event) {
	t.Helper()
	if got := w.Trace(); !slices.Equal(got, want) {
		t.Errorf("trace %+v, want %+v", got, want)
	}
}

func filed(t *testing.T, w *world.World, want ...api.File) {
	t.Helper()
	if got := w.Files(); !slices.Equal(got, want) {
		t.Errorf("files %+v, want %+v", got, want)
	}
}

// P2.1

func TestNew(t *testing.T) {
	longest := strings.Repeat("n", 255)
	w := made("in", api.File{Name: "b", Data: "1"}, api.File{Name: "a", Data: ""}, api.File{Name: "b", Data: "2"}, api.File{Name: "", Data: "3"},
		api.File{Name: longest, Data: "4"}, api.File{Name: longest + "n", Data: "5"}, api.File{Name: "\x00", Data: "6"}, api.File{Name: "a\x00", Data: "7"}, api.File{Name: "a", Data: "8"}, api.File{Name: "c/ \xff", Data: "9\x00"})
	filed(t, w, api.File{Name: "a"}, api.File{Name: "b", Data: "1"}, api.File{Name: "c/ \xff", Data: "9\x00"}, api.File{Name: longest, Data: "4"})
	traced(t, w)
	for _, fd := range []int64{0, 1, 2} {
		if _, n := w.SysRead(fd, 0); (n == 0) != (fd == 0) {
			t.Errorf("reading from %d: %d", fd, n)
		}
		if n := w.SysWrite(fd, ""); (n == 0) != (fd != 0) {
			t.Errorf("writing to %d: %d", fd, n)
		}
	}
	for fd := int64(3); fd < 20; fd++ {
		is(t, "closing what is free", w.SysClose(fd), -9)
	}
	is(t, "all of the input", w.Line(), "in")
}

func TestNewOfNothing(t *testing.T) {
	w := world.New(api.World{})
	if w.Trace() != nil || w.Files() != nil || w.Line() != "" {
		t.Error("not empty")
	}
	is(t, "SysOpen", w.SysOpen("f", write), 3)
	filed(t, w, api.File{Name: "f"})
}

// A world and its copy are alike, and part from then on, whichever of both goes on.
func TestCopyParts(t *testing.T) {
	for _, second := range []bool{false, true} {
		w := made("one\ntwo\nthree", api.File{Name: "f", Data: "abcdef"}, api.File{Name: "g", Data: "ghi"})
		w.Line()
		w.SysOpen("f", 0)
		w.SysRead(3, 2)
		w.SysOpen("h", write)
		w.SysWrite(4, "12345")
		w.Out("before")
		stays, goes := w, w.Copy()
		if second {
			stays, goes = goes, stays
		}
		goes.Line()
		goes.SysRead(3, 3)
		goes.SysWrite(4, "678")
		goes.Out("after")
		goes.WriteFile("g", "other")
		goes.WriteFile("new", "x")
		goes.SysClose(1)
		goes.SysClose(3)
		traced(t, stays, wrote("h", "12345"), out("before"))
		filed(t, stays, api.File{Name: "f", Data: "abcdef"}, api.File{Name: "g", Data: "ghi"}, api.File{Name: "h", Data: "12345"})
		reads(t, stays, 3, 2, "cd")
		is(t, "SysWrite", stays.SysWrite(4, "6"), 1)
		holds(t, stays, "h", "123456")
		holds(t, goes, "h", "12345678")
		stays.Out("!")
		is(t, "Line", stays.Line(), "two\n")
		is(t, "Line", goes.Line(), "three")
		traced(t, stays, wrote("h", "12345"), out("before"), wrote("h", "6"), out("!"))
		traced(t, goes, wrote("h", "12345"), out("before"), wrote("h", "678"), out("after"), wrote("g", "other"), wrote("new", "x"))
	}
}

// The last event's text is the place where a world and its copies could still hang together.
func TestCopiesOfOneText(t *testing.T) {
	w := made("")
	w.WriteFile("f", "a")
	w.SysOpen("f", write)
	w.SysWrite(3, "abc")
	c, d := w.Copy(), w.Copy()
	for i, x := range []*world.World{w, c, d, c.Copy()} {
		mark := string(rune('1' + i))
		x.SysWrite(3, mark)
		traced(t, x, wrote("f", "a"), wrote("f", "abc"+mark))
		holds(t, x, "f", "abc"+mark)
		x.SysOpen("f", write)
		x.SysWrite(4, "XY")
	}
	traced(t, d, wrote("f", "a"), wrote("f", "abc3"), wrote("f", "XY"))
	holds(t, d, "f", "XY")
}

// P2.2

func TestSysOpenRefuses(t *testing.T) {
	long := strings.Repeat("n", 256)
	full := made("", api.File{Name: "f"}, api.File{Name: "g"})
	for range 16 {
		full.SysOpen("f", 0)
	}
	for _, x := range []struct {
		name       string
		flags      int64
		want, many int64 // with descriptors free, and with none
	}{
		{long, 0, -36, -36}, {long, write, -36, -36}, {long, 1, -36, -36}, {strings.Repeat("\x00", 256), 0, -36, -36}, {strings.Repeat("n", 70000), 5, -36, -36},
		{"f", 1, -22, -22}, {"f", 2, -22, -22}, {"f", -1, -22, -22}, {"f", 576, -22, -22}, {"f", 578, -22, -22}, {"f", 1 << 32, -22, -22}, {"f", 577 + 1<<32, -22, -22},
		{"f", math.MaxInt64, -22, -22}, {"f", math.MinInt64, -22, -22}, {"", 1, -22, -22}, {"none", 1, -22, -22}, {long[1:], 7, -22, -22},
		{"\x00", 0, -22, -22}, {"f\x00", 0, -22, -22}, {"\x00f", write, -22, -22}, {strings.Repeat("n", 254) + "\x00", write, -22, -22}, {"f\x00", 3, -22, -22},
		{"", 0, -2, -2}, {"", write, -2, -2}, {"none", 0, -2, -2}, {long[1:], 0, -2, -2}, {"F", 0, -2, -2}, {"f ", 0, -2, -2},
		{"f", 0, 3, -24}, {"f", write, 3, -24}, {"none", write, 3, -24}, {long[1:], write, 3, -24},
	} {
		w := made("", api.File{Name: "f"}, api.File{Name: "g"})
		is(t, "SysOpen of "+x.name, w.SysOpen(x.name, x.flags), x.want)
		is(t, "SysOpen with none free of "+x.name, full.SysOpen(x.name, x.flags), x.many)
		if x.want < 0 {
			traced(t, w)
			filed(t, w, api.File{Name: "f"}, api.File{Name: "g"})
			is(t, "SysOpen behind a refusal", w.SysOpen("g", 0), 3)
		}
	}
	traced(t, full)
	filed(t, full, api.File{Name: "f"}, api.File{Name: "g"})
}

func TestSysOpenReads(t *testing.T) {
	w := made("", api.File{Name: "f", Data: "xyz"})
	is(t, "SysOpen", w.SysOpen("f", 0), 3)
	is(t, "SysOpen", w.SysOpen("f", 0), 4)
	reads(t, w, 3, 2, "xy")
	reads(t, w, 4, 9, "xyz")
	reads(t, w, 3, 9, "z")
	is(t, "writing what is to be read", w.SysWrite(3, "q"), -9)
	is(t, "writing what is to be read", w.SysWrite(4, ""), -9)
	traced(t, w)
	filed(t, w, api.File{Name: "f", Data: "xyz"})
}

// A file that is opened to be written is cut, and told of each time, whatever the last event is.
func TestSysOpenWrites(t *testing.T) {
	w := made("", api.File{Name: "f", Data: "xyz"})
	is(t, "SysOpen", w.SysOpen("f", write), 3)
	filed(t, w, api.File{Name: "f"})
	traced(t, w, wrote("f", ""))
	is(t, "SysOpen", w.SysOpen("f", write), 4)
	traced(t, w, wrote("f", ""), wrote("f", ""))
	is(t, "SysOpen", w.SysOpen("g", write), 5)
	traced(t, w, wrote("f", ""), wrote("f", ""), wrote("g", ""))
	filed(t, w, api.File{Name: "f"}, api.File{Name: "g"})
	w.SysWrite(4, "ab")
	is(t, "SysOpen", w.SysOpen("f", write), 6)
	traced(t, w, wrote("f", ""), wrote("f", ""), wrote("g", ""), wrote("f", "ab"), wrote("f", ""))
	filed(t, w, api.File{Name: "f"}, api.File{Name: "g"})
	readsNot(t, w, 3)
	readsNot(t, w, 6)
}

func TestSysOpenLongestName(t *testing.T) {
	longest := strings.Repeat("\xfe", 255)
	w := made("", api.File{Name: longest, Data: "old"})
	is(t, "SysOpen", w.SysOpen(longest, 0), 3)
	reads(t, w, 3, 9, "old")
	is(t, "SysOpen", w.SysOpen(longest, write), 4)
	is(t, "SysWrite", w.SysWrite(4, "new"), 3)
	filed(t, w, api.File{Name: longest, Data: "new"})
	traced(t, w, wrote(longest, "new"))
}

// Till none is free; one that is let go is the next; the lowest comes first; the three first ones are like others.
func TestSysOpenLowest(t *testing.T) {
	w := made("in", api.File{Name: "f", Data: "data"})
	for fd := int64(3); fd <= 18; fd++ {
		is(t, "SysOpen", w.SysOpen("f", 0), fd)
	}
	is(t, "SysOpen", w.SysOpen("f", 0), -24)
	is(t, "SysOpen", w.SysOpen("new", write), -24)
	w.SysRead(7, 3)
	w.SysClose(7)
	is(t, "SysOpen", w.SysOpen("f", 0), 7)
	reads(t, w, 7, 9, "data")
	is(t, "SysOpen", w.SysOpen("f", 0), -24)
	for _, fd := range []int64{18, 5, 2, 11, 0} {
		is(t, "SysClose", w.SysClose(fd), 0)
	}
	for _, fd := range []int64{0, 2, 5, 11, 18, -24} {
		is(t, "SysOpen", w.SysOpen("f", 0), fd)
	}
	reads(t, w, 0, 9, "data")
	is(t, "SysWrite", w.SysWrite(2, "x"), -9)
	filed(t, w, api.File{Name: "f", Data: "data"})
	traced(t, w)
}

// P2.3

func TestSysReadRefuses(t *testing.T) {
	w := made("in", api.File{Name: "f", Data: "data"})
	w.SysOpen("g", write)
	w.SysOpen("f", 0)
	w.SysClose(4)
	for _, fd := range []int64{1, 2, 3, 4, 5, 18, 19, 20, -1, -9, 1 << 32, 1<<32 + 3, math.MaxInt64, math.MinInt64} {
		readsNot(t, w, fd)
	}
	w.SysClose(0)
	readsNot(t, w, 0)
	is(t, "Line", w.Line(), "in")
}

func TestSysReadInput(t *testing.T) {
	w := made("ab\ncd\x00e")
	reads(t, w, 0, 0, "")
	reads(t, w, 0, 1, "a")
	reads(t, w, 0, 3, "b\nc")
	reads(t, w, 0, 3, "d\x00e")
	reads(t, w, 0, 3, "")
	reads(t, w, 0, math.MaxUint64, "")
	w = made("abc")
	reads(t, w, 0, math.MaxUint64, "abc")
	reads(t, w, 0, 0, "")
	traced(t, w)
}

func TestSysReadFile(t *testing.T) {
	for _, n := range []uint64{5, 6, 1 << 31, 1 << 32, 1 << 63, math.MaxUint64} {
		w := made("", api.File{Name: "f", Data: "hello"}, api.File{Name: "e"})
		w.SysOpen("f", 0)
		w.SysOpen("e", 0)
		reads(t, w, 3, n, "hello")
		reads(t, w, 3, n, "")
		reads(t, w, 4, n, "")
	}
	w := made("", api.File{Name: "f", Data: "hello"})
	w.SysOpen("f", 0)
	reads(t, w, 3, 0, "")
	reads(t, w, 3, 4, "hell")
	reads(t, w, 3, 0, "")
	reads(t, w, 3, 4, "o")
	traced(t, w)
}

// A file is read as it is now: cut, grown again, written over, ahead of the place and behind it.
func TestSysReadAsItIsNow(t *testing.T) {
	w := made("", api.File{Name: "f", Data: "0123456789"})
	w.SysOpen("f", 0)
	reads(t, w, 3, 6, "012345")
	w.SysOpen("f", write)
	reads(t, w, 3, 9, "")
	w.SysWrite(4, "abc")
	reads(t, w, 3, 9, "")
	w.SysWrite(4, "def")
	reads(t, w, 3, 9, "")
	w.SysWrite(4, "ghij")
	reads(t, w, 3, 2, "gh")
	w.SysOpen("f", write)
	w.SysWrite(5, "ABCDEFGHIJKL")
	reads(t, w, 3, 9, "IJKL")
	w.SysWrite(4, "xyz")
	reads(t, w, 3, 9, "z")
	holds(t, w, "f", "ABCDEFGHIJxyz")
}

// P2.4

func TestSysWriteRefuses(t *testing.T) {
	w := made("in", api.File{Name: "f", Data: "data"})
	w.SysOpen("f", 0)
	w.SysOpen("g", write)
	w.SysClose(4)
	for _, fd := range []int64{0, 3, 4, 5, 18, 19, 20, -1, -2, 1 << 32, 1<<32 + 1, math.MaxInt64, math.MinInt64} {
		is(t, "SysWrite", w.SysWrite(fd, "x"), -9)
		is(t, "SysWrite of nothing", w.SysWrite(fd, ""), -9)
	}
	traced(t, w, wrote("g", ""))
	filed(t, w, api.File{Name: "f", Data: "data"}, api.File{Name: "g"})
	reads(t, w, 3, 9, "data")
	for _, fd := range []int64{1, 2} {
		w.SysClose(fd)
		is(t, "SysWrite", w.SysWrite(fd, "x"), -9)
	}
	traced(t, w, wrote("g", ""))
}

// Which events go on one another, and which don't.
func TestSysWriteSays(t *testing.T) {
	w := made("")
	is(t, "nothing", w.SysWrite(1, ""), 0)
	traced(t, w)
	is(t, "output", w.SysWrite(1, "a\x00\xff"), 3)
	is(t, "output", w.SysWrite(1, "b\n"), 2)
	is(t, "nothing", w.SysWrite(2, ""), 0)
	is(t, "output", w.SysWrite(1, "c"), 1)
	traced(t, w, out("a\x00\xffb\nc"))
	w.SysWrite(2, "d")
	w.SysWrite(2, "e")
	w.SysWrite(1, "f")
	traced(t, w, out("a\x00\xffb\nc"), err("de"), out("f"))

	w = made("")
	w.SysOpen("f", write)
	w.SysOpen("g", write)
	w.SysWrite(3, "1") // the last event is g's
	w.SysWrite(4, "2")
	w.SysWrite(4, "3")
	w.SysWrite(3, "")
	w.SysWrite(4, "4")
	w.SysWrite(1, "5")
	w.SysWrite(4, "6")
	w.SysOpen("f", 0)
	w.SysRead(5, 1)
	w.SysClose(5)
	w.SysWrite(4, "7")
	traced(t, w, wrote("f", ""), wrote("g", ""), wrote("f", "1"), wrote("g", "234"), out("5"), wrote("g", "67"))
	filed(t, w, api.File{Name: "f", Data: "1"}, api.File{Name: "g", Data: "23467"})
}

// At a file's end, within it, across its end, and behind it.
func TestSysWriteLays(t *testing.T) {
	w := made("", api.File{Name: "f", Data: "old"})
	w.SysOpen("f", write)
	is(t, "at its end", w.SysWrite(3, "abcdef"), 6)
	holds(t, w, "f", "abcdef")
	w.SysOpen("f", write)
	is(t, "at its end", w.SysWrite(4, "ABCDEFGHIJ"), 10)
	is(t, "within it", w.SysWrite(3, "ghi"), 3)
	holds(t, w, "f", "ABCDEFghiJ")
	is(t, "up to its end", w.SysWrite(3, "j"), 1)
	holds(t, w, "f", "ABCDEFghij")
	w.SysOpen("f", write)
	is(t, "ahead of the others", w.SysWrite(5, "xy"), 2)
	holds(t, w, "f", "xy")
	is(t, "nothing, behind its end", w.SysWrite(3, ""), 0)
	holds(t, w, "f", "xy")
	is(t, "behind its end", w.SysWrite(3, "k"), 1)
	holds(t, w, "f", "xy\x00\x00\x00\x00\x00\x00\x00\x00k")
	is(t, "across its end", w.SysWrite(4, "KLM"), 3)
	holds(t, w, "f", "xy\x00\x00\x00\x00\x00\x00\x00\x00KLM")
	is(t, "within it", w.SysWrite(5, "z"), 1)
	holds(t, w, "f", "xyz\x00\x00\x00\x00\x00\x00\x00KLM")
	traced(t, w, wrote("f", "abcdef"), wrote("f", "ABCDEFGHIJghij"), wrote("f", "xykKLMz"))
}

// A file that is cut forgets what it was: what is laid in a gap are bytes of 0.
func TestSysWriteForgets(t *testing.T) {
	w := made("")
	w.SysOpen("f", write)
	w.SysWrite(3, strings.Repeat("x", 100))
	w.SysOpen("f", write)
	w.SysWrite(3, "y")
	holds(t, w, "f", strings.Repeat("\x00", 100)+"y")
}

// P2.5

func TestSysClose(t *testing.T) {
	w := made("in\n", api.File{Name: "f", Data: "data"})
	w.SysOpen("f", 0)
	w.SysOpen("g", write)
	w.SysWrite(4, "x")
	before := w.Trace()
	for _, fd := range []int64{0, 1, 2, 3, 4} {
		is(t, "SysClose", w.SysClose(fd), 0)
		is(t, "SysClose again", w.SysClose(fd), -9)
		readsNot(t, w, fd)
		is(t, "SysWrite", w.SysWrite(fd, "x"), -9)
	}
	for _, fd := range []int64{5, 18, 19, 20, -1, math.MaxInt64, math.MinInt64, 1 << 32} {
		is(t, "SysClose", w.SysClose(fd), -9)
	}
	traced(t, w, before...)
	filed(t, w, api.File{Name: "f", Data: "data"}, api.File{Name: "g", Data: "x"})
}

// The last descriptor may be closed as the others.
func TestSysCloseLast(t *testing.T) {
	w := made("", api.File{Name: "f"})
	for range 16 {
		w.SysOpen("f", 0)
	}
	is(t, "SysClose", w.SysClose(18), 0)
	is(t, "SysClose", w.SysClose(18), -9)
	is(t, "SysOpen", w.SysOpen("f", 0), 18)
}

// P2.6

func TestOutErr(t *testing.T) {
	w := made("")
	w.Out("")
	w.Err("")
	traced(t, w)
	w.Out("a")
	w.Out("b")
	w.SysWrite(1, "c")
	w.Err("d")
	w.SysWrite(2, "e")
	w.Out("f")
	traced(t, w, out("abc"), err("de"), out("f"))
}

// Out and Err are what descriptors 1 and 2 are: nothing, if these are free, a file, if they are one.
func TestOutElsewhere(t *testing.T) {
	w := made("")
	w.SysClose(1)
	w.Out("lost")
	w.SysClose(2)
	w.Err("lost")
	traced(t, w)
	is(t, "SysOpen", w.SysOpen("f", write), 1)
	is(t, "SysOpen", w.SysOpen("g", write), 2)
	w.Out("a")
	w.Err("b")
	traced(t, w, wrote("f", ""), wrote("g", ""), wrote("f", "a"), wrote("g", "b"))
	filed(t, w, api.File{Name: "f", Data: "a"}, api.File{Name: "g", Data: "b"})
}

func TestLine(t *testing.T) {
	for _, x := range []struct {
		stdin string
		lines []string
	}{
		{"", nil}, {"\n", []string{"\n"}}, {"\n\n", []string{"\n", "\n"}}, {"a", []string{"a"}}, {"a\n", []string{"a\n"}}, {"a\nb", []string{"a\n", "b"}},
		{"\n\na\r\n\x00\n \xff", []string{"\n", "\n", "a\r\n", "\x00\n", " \xff"}}, {strings.Repeat("x", 70000) + "\ny", []string{strings.Repeat("x", 70000) + "\n", "y"}},
	} {
		w := made(x.stdin)
		for _, want := range append(x.lines, "", "") {
			is(t, "Line", w.Line(), want)
		}
		reads(t, w, 0, 1, "")
		traced(t, w)
	}
}

// Line and SysRead read one input.
func TestLineAndRead(t *testing.T) {
	w := made("one\ntwo\nthree\nfour")
	reads(t, w, 0, 2, "on")
	is(t, "Line", w.Line(), "e\n")
	reads(t, w, 0, 4, "two\n")
	is(t, "Line", w.Line(), "three\n")
	w.SysClose(0)
	is(t, "Line without a descriptor", w.Line(), "four")
	is(t, "Line without a descriptor", w.Line(), "")
}

// Where descriptor 0 is a file, Line reads the input all the same.
func TestLineOfTheInput(t *testing.T) {
	w := made("in", api.File{Name: "f", Data: "file"})
	w.SysClose(0)
	is(t, "SysOpen", w.SysOpen("f", 0), 0)
	is(t, "Line", w.Line(), "in")
	reads(t, w, 0, 9, "file")
}

func TestReadFile(t *testing.T) {
	longest := strings.Repeat("n", 255)
	w := made("", api.File{Name: "f", Data: "a\x00b\n"}, api.File{Name: "e"}, api.File{Name: longest, Data: "l"})
	for range 40 { // the descriptor is closed again
		holds(t, w, "f", "a\x00b\n")
		holds(t, w, "e", "")
		holds(t, w, longest, "l")
	}
	for _, name := range []string{"", "none", "\x00", "f\x00", longest + "n"} {
		if s, there := w.ReadFile(name); s != "" || there {
			t.Errorf("ReadFile(%q) = %q, %v", name, s, there)
		}
	}
	w.SysOpen("f", 0)
	w.SysRead(3, 2)
	holds(t, w, "f", "a\x00b\n")
	reads(t, w, 3, 9, "b\n")
	for range 15 {
		w.SysOpen("f", 0)
	}
	if s, there := w.ReadFile("f"); s != "" || there {
		t.Errorf("ReadFile with no descriptor free: %q, %v", s, there)
	}
	w.SysClose(9)
	holds(t, w, "f", "a\x00b\n")
	is(t, "SysOpen", w.SysOpen("f", 0), 9)
	traced(t, w)
}

func TestWriteFile(t *testing.T) {
	longest := strings.Repeat("n", 255)
	w := made("", api.File{Name: "f", Data: "old, and longer"})
	for range 40 { // the descriptor is closed again
		is(t, "WriteFile", w.WriteFile(longest, "x"), true)
	}
	w = made("", api.File{Name: "f", Data: "old, and longer"})
	is(t, "WriteFile", w.WriteFile("f", "q"), true)
	is(t, "WriteFile", w.WriteFile("f", "r"), true)
	is(t, "WriteFile", w.WriteFile("e", ""), true)
	for _, name := range []string{"", "\x00", "f\x00", longest + "n"} {
		is(t, "WriteFile", w.WriteFile(name, "x"), false)
	}
	for range 16 {
		w.SysOpen("f", 0)
	}
	is(t, "WriteFile with no descriptor free", w.WriteFile("f", "s"), false)
	is(t, "WriteFile with no descriptor free", w.WriteFile("new", "s"), false)
	traced(t, w, wrote("f", "q"), wrote("f", "r"), wrote("e", ""))
	filed(t, w, api.File{Name: "e"}, api.File{Name: "f", Data: "r"})
	w.SysClose(18)
	is(t, "WriteFile", w.WriteFile("f", "s"), true)
	is(t, "SysOpen", w.SysOpen("f", 0), 18)
	reads(t, w, 18, 9, "s")
}

// P2.7

func TestFilesRise(t *testing.T) {
	names := []string{"b", "a", "B", "aa", "a\x01", "\xff", "é", "a/b", "~", " ", "10", "9", "ab", "\x7f", "\x80"}
	w := made("")
	for i, name := range names {
		if i%2 == 0 {
			w.WriteFile(name, "of "+name)
		}
	}
	var rest []api.File
	for _, name := range names {
		rest = append(rest, api.File{Name: name, Data: "of " + name})
	}
	all := made("", rest...)
	slices.Sort(names) // Go's order of strings is byte by byte
	for range 20 {
		got := all.Files()
		is(t, "how many", len(got), len(names))
		for i, f := range got {
			is(t, "name", f.Name, names[i])
			is(t, "data", f.Data, "of "+names[i])
		}
	}
	is(t, "how many", len(w.Files()), 8)
	if !slices.IsSortedFunc(w.Files(), func(a, b api.File) int { return strings.Compare(a.Name, b.Name) }) {
		t.Errorf("%+v", w.Files())
	}
	traced(t, all)
}

// P2.8

// A text written by parts is one event; and however many parts there are, it takes no longer than it must.
func TestByParts(t *testing.T) {
	const many = 400000
	w := made("")
	w.SysOpen("f", write)
	for range many {
		w.SysWrite(3, "x")
	}
	for range many {
		w.Out("y")
	}
	traced(t, w, wrote("f", strings.Repeat("x", many)), out(strings.Repeat("y", many)))
	holds(t, w, "f", strings.Repeat("x", many))
}

func TestOutputIsWhatWasWritten(t *testing.T) {
	w := made("in", api.File{Name: "f", Data: "data"})
	w.SysOpen("f", 0)
	w.SysOpen("g", write)
	var want strings.Builder
	for i := range 300 {
		s := strings.Repeat(string(rune('a'+i%26)), i%4)
		switch i % 7 {
		case 3:
			w.Err("error")
		case 5:
			w.SysWrite(4, "file")
			w.SysRead(3, 1)
		}
		w.Out(s)
		want.WriteString(s)
	}
	var got strings.Builder
	for _, e := range w.Trace() {
		if e.Kind == api.EventOut {
			got.WriteString(e.Text)
		}
	}
	is(t, "the output", got.String(), want.String())
}

func TestReadIsWhatWasWritten(t *testing.T) {
	w := made("", api.File{Name: "g", Data: "g"})
	for _, s := range []string{"one", "", "longer than that", "\x00\xff\n", strings.Repeat("z", 70000), "s"} {
		is(t, "WriteFile", w.WriteFile("f", s), true)
		holds(t, w, "f", s)
		w.WriteFile("other", "o")
		w.Out("p")
		holds(t, w, "f", s)
		holds(t, w, "g", "g")
	}
}

// The chapter's examples, one behind the other.
func TestExamples(t *testing.T) {
	w := made("ab\nc", api.File{Name: "f", Data: "xyz"})
	is(t, "SysOpen", w.SysOpen("f", 0), 3)
	reads(t, w, 3, 2, "xy")
	reads(t, w, 3, 9, "z")
	reads(t, w, 3, 9, "")
	is(t, "SysOpen", w.SysOpen("g", 0), -2)
	is(t, "SysOpen", w.SysOpen("g", 1), -22)
	is(t, "SysOpen", w.SysOpen(strings.Repeat("g", 256), 0), -36)
	is(t, "SysOpen", w.SysOpen("g", write), 4)
	is(t, "SysWrite", w.SysWrite(4, "12"), 2)
	is(t, "SysWrite", w.SysWrite(4, "3"), 1)
	readsNot(t, w, 4)
	w.Out("a")
	w.Out("b")
	w.Err("")
	traced(t, w, wrote("g", "123"), out("ab"))
	is(t, "Line", w.Line(), "ab\n")
	is(t, "Line", w.Line(), "c")
	is(t, "Line", w.Line(), "")
	is(t, "SysClose", w.SysClose(3), 0)
	is(t, "SysClose", w.SysClose(3), -9)
	is(t, "SysOpen", w.SysOpen("f", 0), 3)
	is(t, "SysWrite", w.SysWrite(9, "x"), -9)
	is(t, "WriteFile", w.WriteFile("f", "q"), true)
	holds(t, w, "f", "q")
	if s, there := w.ReadFile("h"); s != "" || there {
		t.Error(s, there)
	}
	is(t, "WriteFile", w.WriteFile("", "q"), false)
}

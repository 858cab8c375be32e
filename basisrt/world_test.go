package basisrt

import (
	"fmt"
	"math/rand/v2"
	"strings"
	"testing"

	"smithy/api"
)

// inWorld does a test with both kinds of processes, in a world.
func inWorld(t *testing.T, w api.World, do func(b *bench)) {
	t.Helper()
	for i, strict := range []bool{false, true} {
		do(keptOf(t, uint64(i), strict, w))
	}
}

// P17.2, P17.4: texts are written to the outputs, as one event if nothing is between them.
func TestPrint(t *testing.T) {
	t.Parallel()
	inWorld(t, api.World{}, func(b *bench) {
		for _, name := range []string{"print", "eprint", "print", "print"} {
			for _, s := range []any{"", "a", "\x00", "seven..", "eight...", "nine.....", "line\n", some(1000), some(api.MaxString), far(farText)} {
				b.rows(row{name, v{s}, "<0: >"})
			}
		}
		if l := b.w.Trace(); len(l) != 3 || l[0].Kind != api.EventOut || l[1].Kind != api.EventErr || l[2].Text != l[0].Text+l[0].Text {
			b.Error("not as it should be written")
		}
	})
}

// lines reads till the input's end, and twice more.
func (b *bench) lines() {
	b.Helper()
	for ended := 0; ended < 2; {
		if b.mirror.Copy().Line() == "" {
			ended++
		}
		b.ask("inputline", v{0, "any", bytes("value"), 2.5, at(1)}[b.calls%5])
		b.popTo(always)
	}
}

// P17.2: lines of the input: empty ones, a last one without a byte 10, at the end; others are read neither with them nor ahead.
func TestInputLine(t *testing.T) {
	t.Parallel()
	for i, in := range []string{"", "\n", "a", "a\n", "a\nb", "\n\n", "one\ntwo\n\nfour", "\x00\n\x00", "seven..\neight...\nnine.....\n", "\r\n\r", strings.Repeat("\n", 20), some(300), "ten\x0btwo"} {
		t.Run(fmt.Sprint(i), func(t *testing.T) {
			t.Parallel()
			inWorld(t, api.World{Stdin: in}, (*bench).lines)
		})
	}
}

// noLine is n bytes that end no line.
func noLine(n int) string { return strings.ReplaceAll(some(n), "\n", "-") }

// P17.2: long lines, around each number of bytes that a buffer may have, and around the greatest that a text may have; the next line is
// the next one then, also behind one that was too long.
func TestLongLines(t *testing.T) {
	t.Parallel()
	for _, n := range []int{1022, 1023, 1024, 1025, 2047, 2048, 2049, 3000, 65534, 65535, 65536, 65537, 66559, 66560, 66561, 70000, 131072, 200000} {
		for i, end := range []string{"", "\n", "\nnext\n", "\n" + noLine(2000) + "\nx"} {
			t.Run(fmt.Sprint(n, " ", i), func(t *testing.T) {
				t.Parallel()
				b := keptOf(t, uint64(n), i%2 == 0, api.World{Stdin: noLine(n) + end})
				want := short(noLine(n) + end[:min(1, len(end))])
				if n+min(1, len(end)) > api.MaxString {
					want = size
				}
				b.rows(row{"inputline", v{1}, want})
				b.lines()
			})
		}
	}
}

// P17.2: lines between other things that are done: nothing was read ahead.
func TestLinesApart(t *testing.T) {
	t.Parallel()
	in := "first\n" + noLine(1500) + "\nthird\n\nfifth"
	inWorld(t, api.World{Stdin: in, Files: []api.File{{Name: "f", Data: "file\nmore"}}}, func(b *bench) {
		b.rows(row{"inputline", v{1}, `"first\n"`}, row{"readfile", v{"f"}, `"file\nmore"`}, row{"inputline", v{1}, short(noLine(1500) + "\n")})
		b.w.Line()
		b.mirror.Line()
		b.rows(row{"writefile", v{"g", "first\n"}, "<0: >"}, row{"inputline", v{1}, `"\n"`}, row{"readfile", v{"none"}, io}, row{"inputline", v{1}, `"fifth"`}, row{"inputline", v{1}, `""`})
	})
}

// P17.2: files of all lengths around those of the buffer, and around the greatest that a text may have.
func TestReadFile(t *testing.T) {
	t.Parallel()
	for _, n := range []int{0, 1, 7, 8, 9, 1023, 1024, 1025, 2047, 2048, 2049, 5000, 65535, 65536, 65537, 66560, 66561, 100000} {
		t.Run(fmt.Sprint(n), func(t *testing.T) {
			t.Parallel()
			inWorld(t, api.World{Files: []api.File{{Name: "it", Data: some(n)}}}, func(b *bench) {
				want := short(some(n))
				if n > api.MaxString {
					want = io
				}
				b.rows(row{"readfile", v{"it"}, want}, row{"readfile", v{"it"}, want}, row{"readfile", v{"no"}, io})
			})
		})
	}
}

// names are some that files may have, and some that they may not.
func names() (may, not []string) {
	may = []string{"a", "seven77", "eight888", "nine99999", "sixteen sixteen.", " ", "\xff\xfe", "a/b", "..", "\n", strings.Repeat("n", 254), strings.Repeat("n", 255)}
	not = []string{"", "\x00", "a\x00", "\x00a", "a\x00b", "eight888\x00", "eight88\x00", strings.Repeat("n", 256), strings.Repeat("n", 255) + "\x00", strings.Repeat("n", 257), strings.Repeat("n", 1100), strings.Repeat("n", 9000), some(65536), strings.Repeat("n", 254) + "\x00"}
	return may, not
}

// P17.2: names of files: none is taken for what begins it, nor for what it begins.
func TestNames(t *testing.T) {
	t.Parallel()
	may, not := names()
	files := []api.File{{Name: "ab", Data: "ab"}}
	for _, s := range may {
		files = append(files, api.File{Name: s, Data: "this is " + s})
	}
	inWorld(t, api.World{Files: files}, func(b *bench) {
		for _, s := range append(may, "ab") {
			b.ask("readfile", s)
			b.rows(row{"writefile", v{s, "is now " + s}, "<0: >"}, row{"readfile", v{s}, short("is now " + s)}, row{"readfile", v{s + "x"}, io})
			b.popTo(always)
		}
		for _, s := range not {
			b.rows(row{"readfile", v{s}, io}, row{"writefile", v{s, "x"}, io}, row{"writefile", v{s, ""}, io})
		}
		for _, s := range []string{"A", "abc", "eight88", "eight8888", "sixteen sixteen"} {
			b.rows(row{"readfile", v{s}, io})
		}
		b.rows(row{"readfile", v{far(farText)}, io}, row{"writefile", v{far(farText), far(farText)}, "<0: >"}, row{"readfile", v{far(farText)}, `"outside"`})
	})
}

// P17.2: what is written is all of the file then; empty texts, long ones, over a file that is there.
func TestWriteFile(t *testing.T) {
	t.Parallel()
	inWorld(t, someWorld(), func(b *bench) {
		for _, s := range []string{"f", "new", "f", "empty"} {
			for _, n := range []int{100, 0, 1, 8, 65536, 3, 1024, 0, 0} {
				b.rows(row{"writefile", v{s, some(n)}, "<0: >"}, row{"readfile", v{s}, short(some(n))})
			}
			b.rows(row{"print", v{"between"}, "<0: >"}, row{"writefile", v{s, "end"}, "<0: >"}, row{"writefile", v{s, "end"}, "<0: >"})
		}
	})
}

// P17.2: descriptors are let go: more files are read and written than there are; if none is free, it can't be done.
func TestDescriptors(t *testing.T) {
	t.Parallel()
	inWorld(t, someWorld(), func(b *bench) {
		for i := range 60 {
			b.rows(row{"readfile", v{"f"}, `"file"`}, row{"readfile", v{"none"}, io}, row{"writefile", v{fmt.Sprint("n", i%3), "x"}, "<0: >"}, row{"writefile", v{"", "x"}, io})
		}
		for i := range api.MaxOpen {
			if fd := b.w.SysOpen("f", 0); fd != b.mirror.SysOpen("f", 0) || fd != int64(3+i) {
				b.Fatal("descriptor", fd)
			}
		}
		b.rows(row{"readfile", v{"f"}, io}, row{"writefile", v{"f", "x"}, io}, row{"print", v{"x"}, "<0: >"}, row{"inputline", v{1}, `"one\n"`})
		b.w.SysClose(7)
		b.mirror.SysClose(7)
		b.rows(row{"readfile", v{"f"}, `"file"`}, row{"writefile", v{"f", "x"}, "<0: >"}, row{"readfile", v{"f"}, `"x"`})
	})
}

// P17.2: all that is done to the world, at random.
func TestWorldAtRandom(t *testing.T) {
	t.Parallel()
	for seed := range uint64(6) {
		t.Run(fmt.Sprint(seed), func(t *testing.T) {
			t.Parallel()
			r := rand.New(rand.NewPCG(seed, 9))
			var in strings.Builder
			for range 150 {
				in.WriteString(noLine(r.IntN([3]int{3, 30, 3000}[r.IntN(3)])) + "\n")
			}
			b := keptOf(t, seed, seed%2 == 0, api.World{Stdin: in.String(), Files: []api.File{{Name: "a", Data: some(5000)}, {Name: "big", Data: some(66000)}}})
			name := func() string { return []string{"a", "b", "c", "big", "", "a\x00"}[r.IntN(6)] }
			for range 300 {
				s := some(r.IntN([3]int{2, 20, 2000}[r.IntN(3)]))
				switch r.IntN(6) {
				case 0:
					b.ask("print", s)
				case 1:
					b.ask("eprint", s)
				case 2:
					b.ask("inputline", s)
				case 3, 4:
					b.ask("readfile", name())
				case 5:
					b.ask("writefile", name(), s)
				}
				b.popTo(always)
			}
		})
	}
}

// P17.2: exit, of integers modulo 256; nothing else is done to the world.
func TestExit(t *testing.T) {
	t.Parallel()
	inWorld(t, someWorld(), func(b *bench) {
		for _, r := range []struct {
			x    any
			code int
		}{
			{0, 0}, {1, 1}, {255, 255}, {256, 0}, {257, 1}, {-1, 255}, {-255, 1}, {-256, 0}, {-257, 255}, {1<<62 - 1, 255}, {-1 << 62, 0}, {power2(62), 0}, {huge("4611686018427387999"), 95}, {huge("~4611686018427387999"), 161},
			{huge("18446744073709551615"), 255}, {huge("~18446744073709551615"), 1}, {huge("18446744073709551623"), 7}, {huge("~18446744073709551623"), 249}, {huge("~18446744073709551616"), 0}, {power2(5000), 0}, {far(farBig), 256 - 0xd2},
		} {
			b.push("said")
			b.rows(row{"print", v{b.last()}, "<0: >"})
			p, refs := b.hand(v{r.x})
			b.beginCall(p, 0)
			if st := b.enter("do.exit", p); st != api.Exited || b.s.Code() != r.code {
				b.Errorf("exit of %v: %d, code %d, wanted %d", r.x, st, b.s.Code(), r.code)
			}
			if said, _ := b.interpreted("exit", refs); said != fmt.Sprint("over 1 ", r.code) {
				b.Errorf("exit of %v: %s", r.x, said)
			}
			b.endCall()
			b.worldsAlike("exit")
			b.popTo(always)
		}
	})
}

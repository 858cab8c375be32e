package basisrt

import (
	"slices"
	"strings"
	"testing"

	"smithy/api"
)

// Exceptions as they are told.
var (
	subscript = raisesOf(api.ExnSubscript)
	size      = raisesOf(api.ExnSize)
	io        = raisesOf(api.ExnIo)
	chr       = raisesOf(api.ExnChr)
)

// both does a test with a process that is strict, and one that isn't; the collector is the test.
func both(t *testing.T, do func(b *bench)) {
	t.Parallel()
	for i, name := range []string{"loose", "strict"} {
		t.Run(name, func(t *testing.T) {
			t.Parallel()
			do(newKept(t, uint64(i), i == 1))
		})
	}
}

// The chapter's examples, but for fail.
func TestExamples(t *testing.T) {
	both(t, func(b *bench) {
		b.rows(
			row{"cat", v{"ab", "c"}, `"abc"`},
			row{"substring", v{"abc", 1, 2}, `"bc"`},
			row{"substring", v{"abc", 2, 2}, subscript},
			row{"vector", v{list{5, 6}}, "[5 6]"},
			row{"eq", v{block{1, v{"x"}}, block{1, v{"x"}}}, "1"},
			row{"readfile", v{"none"}, io},
		)
		b.ask("vector", list{5, 6})
		b.rows(row{"vsub", v{at(len(b.stack) - 1), 1}, "6"})
	})
}

// some is n bytes, of which no two near one another are the same.
func some(n int) string {
	out := make([]byte, n)
	for i := range out {
		out[i] = byte(i*7 + i/251 + 1)
	}
	return string(out)
}

// P17.2: texts joined, of all lengths that lie in a word, two or three.
func TestCat(t *testing.T) {
	both(t, func(b *bench) {
		for m := range 26 {
			for n := range 26 {
				b.rows(row{"cat", v{some(m), strings.ToUpper(some(n))}, short(some(m) + strings.ToUpper(some(n)))})
			}
			b.rows(row{"cat", v{some(m), again(0)}, short(some(m) + some(m))}, row{"cat", v{far(farText), some(m)}, short("outside" + some(m))})
		}
		b.rows(
			row{"cat", v{"", ""}, `""`},
			row{"cat", v{"\x00", "\xff\x00"}, `"\x00\xff\x00"`},
			row{"cat", v{far(farText), far(farText)}, `"outsideoutside"`},
		)
	})
}

// P17.2: texts that are together as long as a text may be, and one byte longer.
func TestLongCat(t *testing.T) {
	both(t, func(b *bench) {
		for _, m := range []int{0, 1, 7, 8, 9, 32767, 32768, 65527, 65535, 65536} {
			n := api.MaxString - m
			b.rows(row{"cat", v{some(m), some(n)}, short(some(m) + some(n))}, row{"cat", v{some(m), some(n + 1)}, size}, row{"cat", v{some(m + 1), some(n)}, size})
		}
		b.rows(row{"cat", v{some(32768), again(0)}, short(some(32768) + some(32768))}, row{"cat", v{some(32769), again(0)}, size})
	})
}

// P17.2: how long texts are, and their bytes.
func TestBytesOfTexts(t *testing.T) {
	both(t, func(b *bench) {
		for _, n := range []int{0, 1, 7, 8, 9, 255, 256, api.MaxString} {
			s := some(n)
			b.push(s)
			it := at(len(b.stack) - 1)
			b.rows(row{"size", v{it}, decimal(n)})
			for _, i := range []int{0, 1, 6, 7, 8, 254, 255, 256, n - 2, n - 1} {
				if i >= 0 && i < n {
					b.rows(row{"ssub", v{it, i}, decimal(int(s[i]))})
				}
			}
			for _, i := range noPlaces(n) {
				b.rows(row{"ssub", v{it, i}, subscript})
			}
			b.popTo(always)
		}
		b.rows(row{"size", v{far(farText)}, "7"}, row{"ssub", v{far(farText), 2}, "116"}, row{"ssub", v{"\x00\xff\x80", 0}, "0"},
			row{"ssub", v{"\x00\xff\x80", 1}, "255"}, row{"ssub", v{"\x00\xff\x80", 2}, "128"})
	})
}

// noPlaces are integers that say no place of n.
func noPlaces(n int) v {
	return v{-1, n, n + 1, -n - 1, 1 << 32, 1<<32 - 1, -1 << 32, 1<<61 + n - 1, 1<<62 - 1, -1 << 62, power2(62), power2(64), huge("~4611686018427387905"), power2(300), huge("~18446744073709551616"), huge("18446744073709551616"), far(farBig)}
}

// P17.2: parts of texts, at all places and of all lengths.
func TestSubstring(t *testing.T) {
	both(t, func(b *bench) {
		for _, n := range []int{0, 1, 2, 7, 8, 9, 17, 24} {
			s := some(n)
			for i := -1; i <= n+1; i++ {
				for k := -1; k <= n+1; k++ {
					want := subscript
					if i >= 0 && k >= 0 && i+k <= n {
						want = short(s[i : i+k])
					}
					b.rows(row{"substring", v{s, i, k}, want})
				}
			}
		}
		b.rows(row{"substring", v{far(farText), 3, 4}, `"side"`}, row{"substring", v{"same", 2, again(1)}, `"me"`}, row{"substring", v{"same", 3, again(1)}, subscript})
	})
}

// P17.2: parts of long texts; places and lengths whose sum would go round.
func TestSubstringEdges(t *testing.T) {
	both(t, func(b *bench) {
		const n = api.MaxString
		s := some(n)
		b.push(s)
		it := at(len(b.stack) - 1)
		for _, r := range [][2]int{{0, n}, {0, n - 1}, {1, n - 1}, {3, n - 7}, {n, 0}, {n - 1, 1}, {n - 9, 9}, {40000, 20000}} {
			b.rows(row{"substring", v{it, r[0], r[1]}, short(s[r[0] : r[0]+r[1]])}, row{"substring", v{it, r[0], n - r[0] + 1}, subscript})
		}
		for _, i := range noPlaces(n + 1) {
			for _, k := range append(noPlaces(n+1), 0, 1, n) {
				b.rows(row{"substring", v{it, i, k}, subscript}, row{"substring", v{it, k, i}, subscript})
			}
		}
		for _, r := range [][2]int{{1<<62 - 1, 1<<62 - 1}, {1<<62 - 1, 1}, {1, 1<<62 - 1}, {-1 << 62, -1 << 62}, {5, -5}, {-5, 5}, {1 << 61, 1 << 61}} {
			b.rows(row{"substring", v{it, r[0], r[1]}, subscript})
		}
	})
}

// P17.2: which text is ahead of which: one that begins another one; bytes of 128 and more; bytes of 0 at the end.
func TestOrderOfTexts(t *testing.T) {
	both(t, func(b *bench) {
		l := []string{"", "\x00", "\x00\x00", "\x00\x00\x00\x00\x00\x00\x00\x00", "\x00\x00\x00\x00\x00\x00\x00\x00\x00", "\x01", "A", "a", "a\x00", "a\x00\x01", "aaaaaaa", "aaaaaaaa", "aaaaaaaa\x00", "aaaaaaaaa",
			"aaaaaaab", "aaaaaaa\x7f", "aaaaaaa\x80", "aaaaaaa\xff", "ab", "ba", "b", "z", "\x7f", "\x80", "\xff", "\xff\xff", "\xffa", "aaaaaaaabbbbbbbbc", "aaaaaaaabbbbbbbb", "aaaaaaaabbbbbbb\xff", "aaaaaaaacbbbbbb\x00"}
		for _, x := range l {
			for _, y := range l {
				b.rows(row{"slt", v{x, y}, decimal(one(x < y))}, row{"sle", v{x, y}, decimal(one(x <= y))})
			}
			b.rows(row{"slt", v{x, again(0)}, "0"}, row{"sle", v{x, again(0)}, "1"})
		}
		for _, n := range []int{1, 7, 8, 9, 16, 31, 64} { // one byte alone is unlike
			s := []byte(some(n))
			for i := range s {
				for _, x := range []byte{0, 1, 0x7f, 0x80, 0xff, s[i] - 1, s[i] + 1} {
					u := slices.Clone(s)
					u[i] = x
					b.rows(row{"slt", v{string(s), string(u)}, decimal(one(s[i] < x))}, row{"sle", v{string(s), string(u)}, decimal(one(s[i] <= x))})
				}
			}
		}
		long := some(api.MaxString)
		b.rows(row{"slt", v{long, long}, "0"}, row{"sle", v{long, long}, "1"}, row{"slt", v{long[:65535], long}, "1"}, row{"sle", v{long, long[:65535]}, "0"}, row{"slt", v{long[:65535] + "\x7f", long[:65535] + "\x80"}, "1"})
	})
}

func one(is bool) int {
	if is {
		return 1
	}
	return 0
}

// P17.2: characters.
func TestCharacters(t *testing.T) {
	both(t, func(b *bench) {
		l := []int{0, 1, 2, 127, 128, 254, 255, 256, 257, 1<<30 - 1, -1}
		for _, c := range l {
			for _, d := range l {
				b.rows(row{"clt", v{c, d}, decimal(one(c < d))}, row{"cle", v{c, d}, decimal(one(c <= d))})
			}
			b.rows(row{"clt", v{c, again(0)}, "0"}, row{"cle", v{c, again(0)}, "1"}, row{"ord", v{c}, decimal(c)}, row{"str", v{c}, short(string([]byte{byte(c)}))})
		}
		for c := range 256 {
			b.rows(row{"chr", v{c}, decimal(c)}, row{"ord", v{c}, decimal(c)}, row{"str", v{c}, short(string([]byte{byte(c)}))})
		}
		for _, a := range noPlaces(256) {
			b.rows(row{"chr", v{a}, chr})
		}
		for _, c := range []int{256, 257, 511, 512, 1 << 20, 1<<30 - 1, -1, -255, -256, -257, 1<<62 - 1, -1 << 62} {
			b.rows(row{"str", v{c}, short(string([]byte{byte(c)}))})
		}
	})
}

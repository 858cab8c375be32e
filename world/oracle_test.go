package world_test

import (
	"fmt"
	"math/rand"
	"slices"
	"strings"
	"testing"

	"smithy/api"
	"smithy/world"
)

// The oracle is a world as the document's words have it: lists that are gone through, and texts that are made anew at each call.
type oracle struct {
	files []api.File
	stdin string
	open  [19]handle
	trace []api.Event
}

type handle struct {
	what  byte // 0: free, i: the input, o, e: both outputs, r, w: a file
	name  string
	place int
}

func newOracle(stdin string, files []api.File) *oracle {
	o := &oracle{stdin: stdin}
	o.open[0].what, o.open[1].what, o.open[2].what = 'i', 'o', 'e'
	for _, f := range files {
		if f.Name != "" && len(f.Name) < 256 && !strings.Contains(f.Name, "\x00") && o.find(f.Name) < 0 {
			o.files = append(o.files, f)
		}
	}
	return o
}

func (o *oracle) copied() *oracle {
	c := *o
	c.files, c.trace = slices.Clone(o.files), slices.Clone(o.trace)
	return &c
}

func (o *oracle) find(name string) int {
	return slices.IndexFunc(o.files, func(f api.File) bool { return f.Name == name })
}

func (o *oracle) at(fd int64) *handle {
	if fd < 0 || fd > 18 {
		return &handle{}
	}
	return &o.open[fd]
}

func (o *oracle) sysOpen(name string, flags int64) int64 {
	if len(name) > 255 {
		return -36
	}
	if flags != 0 && flags != 577 || strings.Contains(name, "\x00") {
		return -22
	}
	if name == "" || flags == 0 && o.find(name) < 0 {
		return -2
	}
	for fd := range o.open {
		if o.open[fd].what != 0 {
			continue
		}
		if flags == 0 {
			o.open[fd] = handle{what: 'r', name: name}
			return int64(fd)
		}
		o.open[fd] = handle{what: 'w', name: name}
		if i := o.find(name); i >= 0 {
			o.files[i].Data = ""
		} else {
			o.files = append(o.files, api.File{Name: name})
		}
		o.trace = append(o.trace, wrote(name, ""))
		return int64(fd)
	}
	return -24
}

func (o *oracle) sysRead(fd int64, n uint64) (string, int64) {
	h := o.at(fd)
	var s string
	switch h.what {
	case 'i':
		s = o.stdin
	case 'r':
		s = o.files[o.find(h.name)].Data
		s = s[min(h.place, len(s)):]
	default:
		return "", -9
	}
	if n < uint64(len(s)) {
		s = s[:n]
	}
	if h.what == 'i' {
		o.stdin = o.stdin[len(s):]
	}
	h.place += len(s)
	return s, int64(len(s))
}

func (o *oracle) say(e api.Event) {
	if e.Text == "" {
		return
	}
	if n := len(o.trace); n > 0 && o.trace[n-1].Kind == e.Kind && o.trace[n-1].Name == e.Name {
		o.trace[n-1].Text += e.Text
		return
	}
	o.trace = append(o.trace, e)
}

func (o *oracle) sysWrite(fd int64, s string) int64 {
	h := o.at(fd)
	switch h.what {
	case 'o':
		o.say(out(s))
	case 'e':
		o.say(err(s))
	case 'w':
		f := &o.files[o.find(h.name)]
		for i := range len(s) {
			for h.place >= len(f.Data) {
				f.Data += "\x00"
			}
			f.Data = f.Data[:h.place] + s[i:i+1] + f.Data[h.place+1:]
			h.place++
		}
		o.say(wrote(h.name, s))
	default:
		return -9
	}
	return int64(len(s))
}

func (o *oracle) sysClose(fd int64) int64 {
	if o.at(fd).what == 0 {
		return -9
	}
	o.open[fd] = handle{}
	return 0
}

func (o *oracle) line() string {
	line, rest, found := strings.Cut(o.stdin, "\n")
	o.stdin = rest
	if found {
		line += "\n"
	}
	return line
}

func (o *oracle) readFile(name string) (string, bool) {
	fd := o.sysOpen(name, 0)
	if fd < 0 {
		return "", false
	}
	o.sysClose(fd)
	return o.files[o.find(name)].Data, true
}

func (o *oracle) writeFile(name, data string) bool {
	fd := o.sysOpen(name, 577)
	if fd >= 0 {
		o.sysWrite(fd, data)
		o.sysClose(fd)
	}
	return fd >= 0
}

func (o *oracle) sorted() []api.File {
	l := slices.Clone(o.files)
	slices.SortFunc(l, func(a, b api.File) int { return strings.Compare(a.Name, b.Name) })
	return l
}

func pick[T any](r *rand.Rand, of ...T) T { return of[r.Intn(len(of))] }

func someName(r *rand.Rand) string {
	if r.Intn(12) == 0 {
		return pick(r, "", "\x00", "a\x00", strings.Repeat("n", 255), strings.Repeat("n", 256), "none")
	}
	return pick(r, "a", "b", "c")
}

func someText(r *rand.Rand) string { return "0123456789\nxyz"[:r.Intn(14)] }

// someCall calls both the same, and tells the call, and what each answered.
func someCall(r *rand.Rand, w *world.World, o *oracle) (call, got, want string) {
	fd := int64(r.Intn(22) - 1)
	if r.Intn(4) > 0 {
		fd = int64(r.Intn(7))
	}
	name, text := someName(r), someText(r)
	n := pick(r, uint64(0), 1, 2, 5, 1<<63)
	flags := pick(r, int64(0), 0, 0, 577, 577, 577, 1, -1)
	switch r.Intn(16) {
	case 0, 1, 2, 3:
		return fmt.Sprintf("SysOpen(%q, %d)", name, flags), fmt.Sprint(w.SysOpen(name, flags)), fmt.Sprint(o.sysOpen(name, flags))
	case 4, 5, 6:
		a, b := w.SysRead(fd, n)
		c, d := o.sysRead(fd, n)
		return fmt.Sprintf("SysRead(%d, %d)", fd, n), fmt.Sprint(a, b), fmt.Sprint(c, d)
	case 7, 8, 9, 10:
		return fmt.Sprintf("SysWrite(%d, %q)", fd, text), fmt.Sprint(w.SysWrite(fd, text)), fmt.Sprint(o.sysWrite(fd, text))
	case 11, 12:
		return fmt.Sprintf("SysClose(%d)", fd), fmt.Sprint(w.SysClose(fd)), fmt.Sprint(o.sysClose(fd))
	case 13:
		w.Out(text)
		o.sysWrite(1, text)
		w.Err(text)
		o.sysWrite(2, text)
		return fmt.Sprintf("Out and Err of %q", text), fmt.Sprint(w.Line()), fmt.Sprint(o.line())
	case 14:
		a, b := w.ReadFile(name)
		c, d := o.readFile(name)
		return fmt.Sprintf("ReadFile(%q)", name), fmt.Sprint(a, b), fmt.Sprint(c, d)
	}
	return fmt.Sprintf("WriteFile(%q, %q)", name, text), fmt.Sprint(w.WriteFile(name, text)), fmt.Sprint(o.writeFile(name, text))
}

// All promises: many calls, one behind the other, are answered as the oracle does, in a world and in copies that part from it.
func TestAgainstOracle(t *testing.T) {
	for seed := range int64(300) {
		r := rand.New(rand.NewSource(seed))
		stdin := strings.Repeat(someText(r), r.Intn(4))
		var files []api.File
		for range r.Intn(4) {
			files = append(files, api.File{Name: someName(r), Data: someText(r)})
		}
		worlds, oracles := []*world.World{world.New(api.World{Stdin: stdin, Files: files})}, []*oracle{newOracle(stdin, files)}
		var calls []string
		for range 150 {
			i := r.Intn(len(worlds))
			if len(worlds) < 3 && r.Intn(40) == 0 {
				worlds, oracles = append(worlds, worlds[i].Copy()), append(oracles, oracles[i].copied())
			}
			call, got, want := someCall(r, worlds[i], oracles[i])
			calls = append(calls, fmt.Sprint(i, ": ", call))
			if got != want {
				t.Fatalf("seed %d: %s answers %q, want %q; before it: %s", seed, call, got, want, strings.Join(calls, "; "))
			}
			for j := range worlds {
				if !slices.Equal(worlds[j].Trace(), oracles[j].trace) || !slices.Equal(worlds[j].Files(), oracles[j].sorted()) {
					t.Fatalf("seed %d: world %d has %+v, %+v, want %+v, %+v; before it: %s", seed, j, worlds[j].Trace(), worlds[j].Files(), oracles[j].trace, oracles[j].sorted(), strings.Join(calls, "; "))
				}
			}
		}
	}
}

// P2.8: a world and its copy answer the same to the same calls.
func TestCopyAnswersTheSame(t *testing.T) {
	for seed := range int64(100) {
		r := rand.New(rand.NewSource(seed))
		w, o := made("ab\ncd\nef", api.File{Name: "a", Data: "data"}), newOracle("ab\ncd\nef", []api.File{{Name: "a", Data: "data"}})
		for range 60 {
			someCall(r, w, o)
		}
		c, k := w.Copy(), o.copied()
		one, other := rand.New(rand.NewSource(-seed)), rand.New(rand.NewSource(-seed))
		for range 60 {
			call, got, _ := someCall(one, w, o)
			_, same, _ := someCall(other, c, k)
			if got != same {
				t.Fatalf("seed %d: %s answers %q, of the copy %q", seed, call, got, same)
			}
		}
		if !slices.Equal(w.Trace(), c.Trace()) || !slices.Equal(w.Files(), c.Files()) {
			t.Fatalf("seed %d: %+v, %+v and %+v, %+v", seed, w.Trace(), w.Files(), c.Trace(), c.Files())
		}
	}
}

package world

import (
	"strings"

	"smithy/api"
)

// What a system call answers that can't be done.
const (
	noFile       = -2
	noDescriptor = -9
	wrongCall    = -22
	noneFree     = -24
	longName     = -36
)

// Flags of SysOpen: to read; to write, to make the file if it isn't there, to cut it to nothing.
const (
	flagsRead  = 0
	flagsWrite = 577
)

// SysOpen opens a file.
func (w *World) SysOpen(name string, flags int64) int64 {
	switch {
	case len(name) > api.MaxPath:
		return longName
	case flags != flagsRead && flags != flagsWrite || hasNought(name):
		return wrongCall
	case name == "" || flags == flagsRead && !w.has(name):
		return noFile
	}
	fd, is := w.lowestFree()
	switch {
	case !is:
		return noneFree
	case flags == flagsRead:
		w.open[fd] = descriptor{kind: toBeRead, name: name}
	default:
		w.open[fd] = descriptor{kind: toBeWritten, name: name}
		w.put(name, nil)
		w.trace = append(w.trace, event{kind: api.EventWrite, name: name})
	}
	return int64(fd)
}

// SysRead reads the next bytes.
func (w *World) SysRead(fd int64, n uint64) (string, int64) {
	d := w.at(fd)
	var s string
	switch d.kind {
	case theInput:
		s = w.take(n)
	case toBeRead:
		s = next(w.files[d.name], d.place, n)
		w.open[fd].place += len(s)
	default:
		return "", noDescriptor
	}
	return s, int64(len(s))
}

// SysWrite writes bytes.
func (w *World) SysWrite(fd int64, s string) int64 {
	d := w.at(fd)
	switch d.kind {
	case theOutput:
		w.say(api.EventOut, "", s)
	case theErrors:
		w.say(api.EventErr, "", s)
	case toBeWritten:
		w.put(d.name, lay(w.files[d.name], d.place, s))
		w.open[fd].place += len(s)
		w.say(api.EventWrite, d.name, s)
	default:
		return noDescriptor
	}
	return int64(len(s))
}

// SysClose lets a descriptor go.
func (w *World) SysClose(fd int64) int64 {
	if w.at(fd).kind == free {
		return noDescriptor
	}
	w.open[fd] = descriptor{}
	return 0
}

// at is what fd is: free, if it is no descriptor.
func (w *World) at(fd int64) descriptor {
	if w == nil || fd < 0 || fd >= int64(len(w.open)) {
		return descriptor{}
	}
	return w.open[fd]
}

func (w *World) lowestFree() (int, bool) {
	if w == nil {
		return 0, false
	}
	for fd, d := range w.open {
		if d.kind == free {
			return fd, true
		}
	}
	return 0, false
}

// take reads the input's next n bytes, or as many as are left.
func (w *World) take(n uint64) string {
	s := next(w.input, w.read, n)
	w.read += len(s)
	return s
}

// next are n bytes from a place on, or as many as are left. A file that was cut may end ahead of the place.
func next(data []byte, place int, n uint64) string {
	if place >= len(data) {
		return ""
	}
	rest := data[place:]
	return string(rest[:min(n, uint64(len(rest)))])
}

// lay lays s from a place on, over what is there and beyond its end. A file that was cut may end ahead of the place.
func lay(data []byte, place int, s string) []byte {
	if s == "" {
		return data
	}
	if gap := place - len(data); gap > 0 {
		data = append(data, make([]byte, gap)...)
	}
	over := copy(data[place:], s)
	return append(data, s[over:]...)
}

func hasNought(name string) bool { return strings.IndexByte(name, 0) >= 0 }

// mayBe tells whether a file may have that name.
func mayBe(name string) bool {
	return name != "" && len(name) <= api.MaxPath && !hasNought(name)
}

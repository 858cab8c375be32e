package world

import "bytes"

// Out writes to the output.
func (w *World) Out(s string) { w.SysWrite(1, s) }

// Err writes to the error output.
func (w *World) Err(s string) { w.SysWrite(2, s) }

// Line is the input's next line, its end with it.
func (w *World) Line() string {
	if w == nil {
		return ""
	}
	rest := w.input[w.read:]
	n := len(rest)
	if end := bytes.IndexByte(rest, '\n'); end >= 0 {
		n = end + 1
	}
	return w.take(uint64(n))
}

// ReadFile is a file's bytes.
func (w *World) ReadFile(name string) (string, bool) {
	fd := w.SysOpen(name, flagsRead)
	if fd < 0 {
		return "", false
	}
	w.SysClose(fd)
	return string(w.files[name]), true
}

// WriteFile makes a file of bytes.
func (w *World) WriteFile(name, data string) bool {
	fd := w.SysOpen(name, flagsWrite)
	if fd < 0 {
		return false
	}
	w.SysWrite(fd, data)
	w.SysClose(fd)
	return true
}

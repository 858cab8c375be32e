package basisrt

import (
	"smithy/api"
	"smithy/build"
)

// The system calls.
const (
	sysRead  = 0
	sysWrite = 1
	sysOpen  = 2
	sysClose = 3
	sysExit  = 60
)

// Descriptors.
const (
	input  = 0
	output = 1
	errors = 2
)

// What a file is opened for.
const (
	toRead  = 0
	toWrite = 577
)

// failCode is the code of a program that ends with what nobody handles.
const failCode = 1

// write writes a text.
func (w *writer) write(fd, text build.Reg) { w.Sys(sysWrite, fd, w.behind(text), w.Length(text)) }

// exit ends the program.
func (w *writer) exit(code build.Reg) { w.Ret(w.Sys(sysExit, code)) }

// say writes do.print and do.eprint.
func say(w *writer, fd int64) {
	w.write(w.Const(fd), w.argument(0))
	w.answerUnit()
}

// fail writes the function of that name.
func fail(w *writer) {
	fd, name := w.Const(errors), w.static(unknownAt)
	raised := w.Load(w.Data(build.RaisedAt), 0)
	w.ifThing(raised, api.HeapBlock, func() {
		w.When(w.Length(raised), api.CondNe, w.Zero, func() {
			exception := w.Load(raised, build.WordBytes)
			w.ifThing(exception, api.HeapCell, func() {
				text := w.Load(exception, build.WordBytes)
				w.ifThing(text, api.HeapText, func() { w.Move(name, text) })
			})
		})
	})
	w.write(fd, w.static(uncaughtAt))
	w.write(fd, name)
	w.write(fd, w.static(newlineAt))
	w.exit(w.Const(failCode))
}

// opened is the descriptor of the file whose name is the first argument. The function raises Io, if it can't be opened.
func (w *writer) opened(flags int64) build.Reg {
	w.layName(w.argument(0))
	fd := w.Sys(sysOpen, w.static(bufferAt), w.Const(flags))
	w.When(fd, api.CondLt, w.Zero, func() { w.Raise(api.ExnIo) })
	return fd
}

// layName lays a file's name into the buffer, and a byte 0 behind it. The function raises Io, if the name has such a byte, or is too
// long.
func (w *writer) layName(name build.Reg) {
	size := w.Length(name)
	w.When(w.Const(api.MaxPath), api.CondLtu, size, func() { w.Raise(api.ExnIo) })
	to, from := w.static(bufferAt), w.behind(name)
	end := w.Add(from, size)
	w.While(from, api.CondLtu, end, func() {
		x := w.LoadByte(from)
		w.When(x, api.CondEq, w.Zero, func() { w.Raise(api.ExnIo) })
		w.StoreByte(to, x)
		w.Advance(from, w.One)
		w.Advance(to, w.One)
	})
	w.StoreByte(to, w.Zero)
}

// writeFile writes do.writefile.
func writeFile(w *writer) {
	fd := w.opened(toWrite)
	w.write(fd, w.argument(1))
	w.Sys(sysClose, fd)
	w.answerUnit()
}

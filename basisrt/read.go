package basisrt

import (
	"smithy/api"
	"smithy/build"
)

// What is read lies in the buffer till that is full, then in chunks that the held words hold: nobody knows ahead of it how long a line or
// a file is.

// The held words while something is read: the chunks that there are, each a block of the last one and of those ahead of it; how many
// bytes were read; and a chunk that is in no block yet.
const (
	chunksHeld = iota
	countHeld
	chunkHeld
)

// readsNothing sets them at first.
func (w *writer) readsNothing() {
	none := w.Const(build.Small0)
	w.hold(w.Param(0), chunksHeld, none)
	w.hold(w.Param(0), countHeld, none)
}

// inputLine writes do.inputline.
func inputLine(w *writer) {
	w.readsNothing()
	w.tail(lineFunction, w.Param(0))
}

// readFile writes do.readfile.
func readFile(w *writer) {
	fd := w.opened(toRead)
	w.readsNothing()
	w.tail(fileFunction, w.Param(0), fd)
}

// line writes what reads on, and answers the line. It reads byte by byte: what is behind the line's end must stay.
func line(w *writer) {
	p, at, end := w.Param(0), w.static(bufferAt), w.static(bufferEnd)
	fd, last, tooLong := w.Const(input), w.Const('\n'), w.Const(api.ExnSize)
	over := func() { w.tail(gatherFunction, p, at, tooLong) }
	w.While(at, api.CondLtu, end, func() {
		w.When(w.Sys(sysRead, fd, at, w.One), api.CondNe, w.One, over)
		x := w.LoadByte(at)
		w.Advance(at, w.One)
		w.When(x, api.CondEq, last, over)
	})
	kept := w.Keep(p)
	w.call(chunkFunction, p)
	w.tail(lineFunction, w.Kept(kept))
}

// file writes what reads on, closes the file, and answers all of it.
func file(w *writer) {
	p, fd, at, end := w.Param(0), w.Param(1), w.static(bufferAt), w.static(bufferEnd)
	w.While(at, api.CondLtu, end, func() {
		n := w.Sys(sysRead, fd, at, w.Sub(end, at))
		w.When(n, api.CondLe, w.Zero, func() {
			w.Sys(sysClose, fd)
			w.tail(gatherFunction, p, at, w.Const(api.ExnIo))
		})
		w.Advance(at, n)
	})
	kept, keptFd := w.Keep(p), w.Keep(fd)
	w.call(chunkFunction, p)
	w.tail(fileFunction, w.Kept(kept), w.Kept(keptFd))
}

// chunk writes what makes a chunk of the buffer. What is behind as many bytes as a text may have is only counted.
func chunk(w *writer) {
	p := w.Param(0)
	count := w.held(p, countHeld)
	w.hold(p, countHeld, w.Add(count, w.Const(2*bufferBytes)))
	w.When(w.Const(2*api.MaxString), api.CondLtu, count, func() { w.Ret(w.One) })
	kept := w.Keep(p)
	out := w.bytes(api.HeapBytes, w.Const(bufferBytes))
	w.copied(w.behind(out), w.static(bufferAt), w.Const(bufferBytes))
	w.hold(w.Kept(kept), chunkHeld, out)
	all := w.Alloc(w.Const(3 * build.WordBytes))
	p = w.Kept(kept)
	w.lay(all, api.HeapBlock, w.Const(2))
	w.Store(all, build.WordBytes, w.held(p, chunkHeld))
	w.Store(all, 2*build.WordBytes, w.held(p, chunksHeld))
	w.hold(p, chunksHeld, all)
	w.Ret(w.One)
}

// gather writes what answers the text of the chunks and of the buffer, up to an address there; or raises an exception, if it is too long.
func gather(w *writer) {
	p := w.Param(0)
	rest := w.Sub(w.Param(1), w.static(bufferAt))
	size := w.Add(w.Sar(w.held(p, countHeld), w.One), rest)
	w.When(w.Const(api.MaxString), api.CondLtu, size, func() {
		w.hold(p, chunksHeld, w.Const(build.Small0))
		w.RaiseOf(w.Param(2))
	})
	kept, keptRest := w.Keep(p), w.Keep(rest)
	out := w.bytes(api.HeapText, size)
	rest = w.Kept(keptRest)
	at := w.Sub(w.Add(w.behind(out), w.Length(out)), rest)
	w.copied(w.Copy(at), w.static(bufferAt), rest)
	w.chunks(w.held(w.Kept(kept), chunksHeld), at)
	w.Ret(out)
}

// chunks copies chunks, the last one first, to what is ahead of an address. It sets both registers.
func (w *writer) chunks(all, at build.Reg) {
	size := w.Const(bufferBytes)
	w.While(all, api.CondNe, w.Const(build.Small0), func() {
		w.Reduce(at, size)
		w.copied(w.Copy(at), w.behind(w.Load(all, build.WordBytes)), size)
		w.Into(all, w.Load(all, 2*build.WordBytes))
	})
}

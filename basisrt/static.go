package basisrt

import (
	"smithy/api"
	"smithy/build"
)

// Texts that are written of what nobody handles.
const (
	uncaught = "uncaught exception "
	unknown  = "?"
	newline  = "\n"
)

// What is read lies in a buffer, of which texts have a whole number; so does a file's name, with a byte 0 behind it.
const bufferBytes = 1024

// Places of things behind Static's beginning: unit, these texts, the buffer.
const (
	unitAt     = 0
	uncaughtAt = unitAt + build.WordBytes
	unknownAt  = uncaughtAt + build.WordBytes + (len(uncaught)+build.WordBytes-1)&build.WholeWords
	newlineAt  = unknownAt + 2*build.WordBytes
	bufferAt   = newlineAt + 2*build.WordBytes
	bufferEnd  = bufferAt + bufferBytes
)

// Static is what they need of the data.
func Static() []byte {
	out := make([]byte, bufferEnd)
	layHeader(out[unitAt:], api.HeapBlock, 0)
	layText(out[uncaughtAt:], uncaught)
	layText(out[unknownAt:], unknown)
	layText(out[newlineAt:], newline)
	return out
}

func layHeader(at []byte, kind, length int64) {
	h := build.Header(kind, length)
	for i := range build.WordBytes {
		at[i] = byte(h >> (8 * i))
	}
}

func layText(at []byte, text string) {
	layHeader(at, api.HeapText, int64(len(text)))
	copy(at[build.WordBytes:], text)
}

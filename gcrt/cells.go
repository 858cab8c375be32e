package gcrt

import "smithy/api"

// Places of cells in the data: those that every program knows, and, behind the words that anybody may use, the collector's own.
const (
	topAt           = 0
	bottomAt        = 8
	endAt           = 16
	raisedAt        = 24
	exceptionsAt    = 32
	exceptionsEndAt = 160
	freeAt          = 256 // where the next thing will lie
	stopAt          = 264 // the end of the half in use
	hereAt          = 272 // where the half in use begins
	thereAt         = 280 // where the other one does
	textAt          = 288
	cellBytes       = 304
)

// Words and things, as they lie in memory.
const (
	wordBytes  = 8
	cellSize   = 2 * wordBytes // of a thing HeapCell
	wholeWords = -wordBytes    // as bits: all but those that tell a place within a word
	lengthAt   = 24            // the bit of a header from which on the length stands
	cellHeader = 1 | api.HeapCell<<1 | 1<<lengthAt
	small0     = 1 // the word of the small number 0
)

// done is what functions answer that have nothing to tell.
const done = 1

package data

import "smithy/api"

// InParts is a program as a word program of functions that have few instructions: each node begins a part of its own behind that many.
func InParts(p api.Program, most int) api.WordProgram { return newMaker(p, most).program() }

// Thrown is what is thrown while a word program is made, and whether that may be.
func Thrown(p api.Program) (may bool) {
	defer func() {
		thrown := recover()
		_, may = thrown.(tooLong)
		may = may || thrown == nil
	}()
	newMaker(p, partLines).program()
	return true
}

package flow

import (
	"smithy/api"
	"smithy/prim"
)

// Thrown is what is thrown while a program is looked at or done, and whether that is something that may be thrown there.
func Thrown(p api.Program, w api.World, fuel int) (thrown any, may bool) {
	defer func() {
		thrown = recover()
		switch thrown.(type) {
		case nil, refused, prim.Over, prim.Raised:
			may = true
		}
	}()
	newChecker(p).program()
	newRunner(p, w, fuel).call(0, nil)
	return nil, true
}

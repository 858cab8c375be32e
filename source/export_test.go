package source

import (
	"smithy/api"
	"smithy/prim"
)

// Thrown is what is thrown while declarations are done, and whether that is something that a run may throw.
func Thrown(l []api.Dec, w api.World, fuel int) (thrown any, may bool) {
	defer func() {
		thrown = recover()
		switch thrown.(type) {
		case nil, prim.Over, prim.Raised:
			may = true
		}
	}()
	newRunner(prim.New(w, fuel)).program(l)
	return nil, true
}

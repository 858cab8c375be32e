package core

import (
	"smithy/api"
	"smithy/prim"
)

// Thrown is what is thrown while a term is done, and whether that is something that a run may throw.
func Thrown(c api.Core, w api.World, fuel int) (thrown any, may bool) {
	defer func() {
		thrown = recover()
		switch thrown.(type) {
		case nil, prim.Over, prim.Raised:
			may = true
		}
	}()
	r := &runner{prim.New(w, fuel), prim.Primitives()}
	r.term(&c, nil)
	return nil, true
}

package types

import "smithy/api"

// Thrown is what is thrown while types are given, and whether it is just that none can be.
func Thrown(l []api.Dec) (thrown any, isFault bool) {
	defer func() {
		thrown = recover()
		_, isFault = thrown.(fault)
	}()
	given(l)
	return nil, false
}

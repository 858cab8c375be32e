package match

import "smithy/api"

// Asked is how many questions are asked of all cases of a term; one more than may be, if there are more.
func Asked(c api.Core) (asked int) {
	w := &warner{asker: newAsker()}
	defer func() {
		if recover() != nil {
			asked = api.MaxMatch + 1
		}
	}()
	w.term(&c)
	return w.asked
}

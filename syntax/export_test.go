package syntax

import "smithy/api"

// PrintTight is what Print answers of a program that is too long with all its blanks.
func PrintTight(l []api.Dec) string { return written(l, true) }

package front

import (
	"cmp"
	"slices"
	"strings"
)

// Places are the places of labels, as they are written, in their order.
func Places(labels []string) []int {
	order := make([]int, len(labels))
	for i := range order {
		order[i] = i
	}
	slices.SortFunc(order, func(i, j int) int { return CompareLabels(labels[i], labels[j]) })
	places := make([]int, len(labels))
	for place, i := range order {
		places[i] = place
	}
	return places
}

// CompareLabels is below 0, if a is ahead of b in the order of labels: numbers by their value, ahead of names, these byte
// by byte. Numbers have no noughts ahead, so that the longer one is the greater one.
func CompareLabels(a, b string) int {
	switch x, y := isNumber(a), isNumber(b); {
	case x && y:
		return cmp.Or(cmp.Compare(len(a), len(b)), strings.Compare(a, b))
	case x:
		return -1
	case y:
		return 1
	}
	return strings.Compare(a, b)
}

func isNumber(label string) bool { return label != "" && label[0] >= '0' && label[0] <= '9' }

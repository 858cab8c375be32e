package data

import (
	"cmp"
	"slices"

	"smithy/api"
	"smithy/build"
)

const fewChoices = 3 // how many tags are asked for one by one

// choice is a tag, and where it goes on.
type choice struct {
	tag int
	to  build.Label
}

// choose writes a FlowSwitch.
func (w *writer) choose(f *api.Flow, at int, next behind) {
	var numbers, tags []choice
	great := false
	for _, tag := range f.Tags {
		c := choice{tag, w.NewLabel()}
		numbers, tags = append(numbers, c), append(tags, choice{w.tag(tag), c.to})
		great = great || w.tag(tag) != tag
	}
	other := w.NewLabel()
	w.ask(w.atom(&f.A, w.read(at, 0)), numbers, tags, great, other)
	saved, kid := w.saved(), at+1
	for i := range f.Kids {
		w.back(saved)
		if i < len(numbers) {
			w.Place(numbers[i].to)
		} else {
			w.Place(other)
		}
		w.kid(&f.Kids[i], kid, next)
		kid = w.ends[kid] + 1
	}
}

// ask goes on where a value's number, or its tag, says; these are asked for apart, if blocks have some of the tags by other numbers.
func (w *writer) ask(value build.Reg, numbers, tags []choice, great bool, other build.Label) {
	key, one, zero := w.Sar(value, w.Const(1)), w.Const(1), w.Const(0)
	isSmall := w.NewLabel()
	w.Branch(w.And(value, one), api.CondNe, zero, isSmall)
	w.Into(key, w.And(w.Shr(w.Load(value, 0), w.Const(build.TagAt)), w.Const(headerTags-1)))
	if great {
		w.search(key, sorted(tags), other)
	}
	w.Place(isSmall)
	w.search(key, sorted(numbers), other)
}

func sorted(l []choice) []choice {
	return slices.SortedFunc(slices.Values(l), func(a, b choice) int { return cmp.Compare(a.tag, b.tag) })
}

// search goes on where the tag says that a key is, by halves.
func (w *writer) search(key build.Reg, l []choice, other build.Label) {
	if len(l) <= fewChoices {
		for _, c := range l {
			w.Forget(key + 1)
			w.Branch(key, api.CondEq, w.Const(int64(c.tag)), c.to)
		}
		w.Jump(other)
		return
	}
	half, below := len(l)/2, w.NewLabel()
	w.Forget(key + 1)
	w.Branch(key, api.CondLtu, w.Const(int64(l[half].tag)), below)
	w.search(key, l[half:], other)
	w.Place(below)
	w.search(key, l[:half], other)
}

package data

import (
	"slices"

	"smithy/api"
)

const (
	headerTags = 1 << 16 // how many tags a header has room for
	freeTags   = 2       // the first tag that isn't a list's, or a truth's, or unit's
)

// tags are those of blocks' headers. Most programs name none that a header has no room for; else these get numbers that are not named.
type tags struct{ great map[int]int }

// named are the tags that blocks and switches name, but for 0 and 1.
func named(p api.Program) map[int]struct{} {
	out := map[int]struct{}{}
	add := func(tag int) {
		if tag >= freeTags {
			out[tag] = struct{}{}
		}
	}
	for i := range p.Funs {
		eachTag(&p.Funs[i].Body, add)
	}
	return out
}

func eachTag(f *api.Flow, add func(tag int)) {
	if f.Kind == api.FlowLet && f.Op.Kind == api.OpBlock {
		add(f.Op.N)
	}
	if f.Kind == api.FlowSwitch {
		for _, tag := range f.Tags {
			add(tag)
		}
	}
	for i := range f.Kids {
		eachTag(&f.Kids[i], add)
	}
}

func newTags(p api.Program) tags {
	all := named(p)
	if len(all) > headerTags-freeTags {
		panic(tooLong{})
	}
	var great []int
	for tag := range all {
		if tag >= headerTags {
			great = append(great, tag)
		}
	}
	slices.Sort(great)
	out, free := tags{map[int]int{}}, freeTags
	for _, tag := range great {
		for isNamed(all, free) {
			free++
		}
		out.great[tag] = free
		free++
	}
	return out
}

func isNamed(all map[int]struct{}, tag int) bool {
	_, is := all[tag]
	return is
}

// tag is a tag as a header has it.
func (t tags) tag(tag int) int {
	if tag < headerTags {
		return tag
	}
	return t.great[tag]
}

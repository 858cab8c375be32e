package colour

import (
	"slices"

	"smithy/api"
)

// none is no block, no cell, no colour, no place.
const none = -1

// block is instructions that are done one behind the other. Block 0 is none of them, or a copy of those of block 1: it goes ahead
// of all.
type block struct {
	from, to int   // its instructions
	falls    int   // the block behind it, or none
	jumps    int   // the block to which it jumps, or none
	ahead    []int // the blocks from which it is come to; one twice, if both of its ways go here
	reached  bool
	turn     int // its place in the blocks' order
	end      int // where a loop that begins here is over, or 0
	within   int // the innermost loop, by the block that begins it, or none
	live     int // how many registers have something here that is wanted
}

// cut makes blocks of instructions. Labels stand ahead of what they have to do with, so that no block but block 0 is empty.
func cut(l []api.Word) []block {
	aims := map[int]int{}
	for _, w := range l {
		if w.Kind == api.WordJump || w.Kind == api.WordBranch {
			aims[w.L] = none
		}
	}
	out := []block{{falls: 1, jumps: none}}
	fresh, busy := true, false // a block begins here; something is done in this one
	for i, w := range l {
		_, aimed := aims[w.L]
		aimed = aimed && w.Kind == api.WordLabel
		if fresh || aimed && busy {
			out = append(out, block{from: i, falls: none, jumps: none})
			fresh, busy = false, false
		}
		if aimed {
			aims[w.L] = len(out) - 1
		}
		busy = busy || w.Kind != api.WordLabel
		fresh = leaves(w.Kind) || w.Kind == api.WordBranch
		out[len(out)-1].to = i + 1
	}
	for i := 1; i < len(out); i++ {
		w := l[out[i].to-1]
		if !leaves(w.Kind) {
			out[i].falls = i + 1
		}
		if w.Kind == api.WordJump || w.Kind == api.WordBranch {
			out[i].jumps = aims[w.L]
		}
	}
	return out
}

// ways tells to which blocks a block goes.
func (b *block) ways(tell func(to int)) {
	if b.falls != none {
		tell(b.falls)
	}
	if b.jumps != none {
		tell(b.jumps)
	}
}

// order is the blocks that can be come to, each ahead of those to which it goes, but where loops begin again.
func order(l []block) []int {
	type visit struct{ block, way int }
	out := []int{}
	open := []visit{{}}
	l[0].reached = true
	for len(open) > 0 {
		at := &open[len(open)-1]
		to := none
		switch b := &l[at.block]; at.way {
		case 0:
			to = b.jumps
		case 1:
			to = b.falls
		default:
			out = append(out, at.block)
			open = open[:len(open)-1]
			continue
		}
		at.way++
		if to != none && !l[to].reached {
			l[to].reached = true
			open = append(open, visit{block: to})
		}
	}
	slices.Reverse(out)
	for turn, b := range out {
		l[b].turn = turn
	}
	return out
}

// join tells each block from which ones it is come to, and which loops there are: a jump back is taken for the end of one.
func join(l []block) {
	for i := range l {
		if !l[i].reached {
			continue
		}
		l[i].ways(func(to int) {
			l[to].ahead = append(l[to].ahead, i)
			if to <= i {
				l[to].end = max(l[to].end, l[i].to)
			}
		})
	}
	var open []int
	for i := range l {
		for len(open) > 0 && l[open[len(open)-1]].end <= l[i].from {
			open = open[:len(open)-1]
		}
		if l[i].end > 0 {
			open = append(open, i)
		}
		l[i].within = none
		if len(open) > 0 {
			l[i].within = open[len(open)-1]
		}
	}
}

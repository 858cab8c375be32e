package word

import (
	"smithy/api"
	"smithy/rounds"
)

// none is no block.
const none = -1

// block is instructions that are done one behind the other. A call is one of its own: behind it no register is set but one.
type block struct {
	from, to int32 // its instructions
	jump     int32 // the block to which it jumps, or none
	jumper   int32 // the last block that jumps here and is reached, or none
	other    int32 // the one ahead of this one among those that jump to where it jumps, or none
	falls    bool  // it goes on with the next one
	call     bool
	reached  bool
	sets     uint64 // which cells of a batch it sets
	wants    uint64 // which have to be set ahead of it
}

// graph is the blocks of a function.
type graph struct {
	code   []api.Word
	blocks []block
	waits  *rounds.Rounds // blocks that have to be looked at, the last one being 0
}

// newGraph cuts instructions into blocks.
func newGraph(l []api.Word) *graph {
	g := &graph{code: l}
	at := map[int]int32{}
	for i, w := range l {
		if i == 0 || w.Kind == api.WordLabel || calls(w.Kind) || ends(l[i-1].Kind) {
			g.blocks = append(g.blocks, block{from: int32(i), jump: none, jumper: none, other: none})
		}
		if w.Kind == api.WordLabel {
			at[w.L] = int32(len(g.blocks) - 1)
		}
		b := &g.blocks[len(g.blocks)-1]
		b.to, b.falls, b.call = int32(i+1), !leaves(w.Kind), calls(w.Kind)
	}
	g.waits = rounds.New(len(g.blocks))
	for i := range g.blocks {
		b := &g.blocks[i]
		if w := l[b.to-1]; w.Kind == api.WordJump || w.Kind == api.WordBranch {
			b.jump = at[w.L]
		}
	}
	return g
}

// ends tells whether an instruction is the last one of its block.
func ends(kind int) bool { return leaves(kind) || calls(kind) || kind == api.WordBranch }

// reach tells all blocks that can be come to, and which of them jump to which.
func (g *graph) reach() {
	todo := []int32{0}
	g.blocks[0].reached = true
	visit := func(n int32) {
		if !g.blocks[n].reached {
			g.blocks[n].reached = true
			todo = append(todo, n)
		}
	}
	for len(todo) > 0 {
		n := todo[len(todo)-1]
		todo = todo[:len(todo)-1]
		b := &g.blocks[n]
		if b.falls {
			visit(n + 1)
		}
		if b.jump != none {
			visit(b.jump)
			b.other, g.blocks[b.jump].jumper = g.blocks[b.jump].jumper, n
		}
	}
}

// ahead tells the reached blocks from which a block is come to.
func (g *graph) ahead(n int32, tell func(from int32)) {
	if n > 0 && g.blocks[n-1].falls && g.blocks[n-1].reached {
		tell(n - 1)
	}
	for from := g.blocks[n].jumper; from != none; from = g.blocks[from].other {
		tell(from)
	}
}

// uses tells what the reached blocks read and set, one by one in their order, slots as cells behind the registers; and that a block is over.
func (g *graph) uses(f api.WordFunction, tell func(b int32, cell int, set bool), over func()) {
	for i := range g.blocks {
		if !g.blocks[i].reached {
			continue
		}
		for _, w := range g.code[g.blocks[i].from:g.blocks[i].to] {
			uses(w, func(use, number int) {
				switch use {
				case readsReg, setsReg:
					tell(int32(i), number, use == setsReg)
				default:
					tell(int32(i), f.Regs+number, use == setsSlot)
				}
			})
		}
		over()
	}
}

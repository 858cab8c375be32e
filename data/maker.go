package data

import (
	"slices"
	"strconv"

	"smithy/api"
	"smithy/basisrt"
	"smithy/bigrt"
	"smithy/build"
	"smithy/gcrt"
)

// Numbers of the collector's functions, behind that of the first one; and that of fail among the primitives'.
const (
	startFunction = 0
	allocFunction = 1
	markFunction  = 4
	fullFunction  = 5
	failFunction  = 36
)

// Where the held words begin and may end, and the room for them that is used of however great a heap. There are two words at least for
// each open call, and never more than MaxCalls of them with this.
const (
	topAt    = 0
	bottomAt = 8
	endAt    = 16
	mostHeld = 2*build.WordBytes*api.MaxCalls - 1<<16
)

const exceptionBytes = 16 // of a cell of exceptions

// exceptions are the names of the built-in ones, by their numbers.
func exceptions() []string {
	return []string{
		api.ExnMatch: "Match", api.ExnBind: "Bind", api.ExnDiv: "Div", api.ExnSubscript: "Subscript",
		api.ExnSize: "Size", api.ExnIo: "Io", api.ExnDomain: "Domain", api.ExnChr: "Chr",
	}
}

// maker makes a word program: the numbers of its functions, its data, its functions as they become ready.
type maker struct {
	*static
	tags
	flow   []api.Func
	words  []api.WordFunction
	lines  int   // instructions that are written
	most   int   // how many instructions a word function has at most, but for those of one node more
	locals []int // room for reading bodies

	// the numbers of the first functions: the collector's, the integers', the primitives', the program's
	collector, integers, basics, funs int
}

func newMaker(p api.Program, most int) *maker {
	m := &maker{static: newStatic(), tags: newTags(p), flow: p.Funs, most: most, collector: 1}
	m.words = append(m.words, api.WordFunction{})
	m.words = append(m.words, gcrt.Functions(m.collector)...)
	m.integers = len(m.words)
	m.words = append(m.words, bigrt.Functions(m.integers, m.collector)...)
	m.basics = len(m.words)
	m.words = append(m.words, basisrt.Functions(m.basics, m.collector, m.integers, m.unitAt)...)
	m.funs = len(m.words)
	m.words = append(m.words, make([]api.WordFunction, len(p.Funs))...)
	locals := 0
	for i := range p.Funs {
		locals = max(locals, p.Funs[i].Locals)
	}
	m.locals = slices.Repeat([]int{none}, locals)
	return m
}

// program makes all functions.
func (m *maker) program() api.WordProgram {
	m.words[0] = build.Function("main", 0, m.main)
	for i := range m.flow {
		f := m.function(i) // which may have parts, behind all others
		m.words[m.funs+i] = f
	}
	return api.WordProgram{Funs: m.words, Data: m.bytes}
}

// main writes the first function: it has the heap set up and the exceptions named, and calls the program's beginning.
func (m *maker) main(b *build.Builder) {
	b.Call(m.collector + startFunction)
	for i, name := range exceptions() {
		b.Store(b.Data(build.ExceptionsAt+exceptionBytes*i), build.WordBytes, b.Data(m.text(name)))
	}
	bottom, end := b.Load(b.Data(bottomAt), 0), b.Load(b.Data(endAt), 0)
	limit := b.Add(bottom, b.Const(mostHeld))
	b.When(end, api.CondLtu, limit, func() { b.Move(limit, end) })
	b.Store(b.Data(m.limitAt), 0, limit)
	answer, zero := b.Call(m.funs, bottom), b.Const(0)
	b.When(answer, api.CondEq, zero, func() { b.Tail(m.basics + failFunction) })
	b.Ret(zero)
}

// function makes one of the program's.
func (m *maker) function(i int) api.WordFunction {
	f := &m.flow[i]
	body := read(f, m.locals)
	w := &writer{maker: m, frame: newFrame(body, f.Params), name: "fun." + strconv.Itoa(i)}
	return w.part(w.name, func(w *writer) {
		known := w.mustFit()
		w.enter(0, body.ends[0])
		w.flow(&f.Body, 0, w.outermost)
		known()
	})
}

// primitive is the number of a primitive's function.
func (m *maker) primitive(name string) int {
	number, own := basisrt.Number(name)
	if own {
		return m.basics + number
	}
	return m.integers + number
}

// count counts what was written since it was asked last.
func (m *maker) count(more int) {
	m.lines += more
	if m.lines > api.MaxLines {
		panic(tooLong{})
	}
}

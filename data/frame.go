package data

import "slices"

// What a place of a frame has, where no value of the body is in it.
const (
	stale = -1 // one that nobody will read any more
	clean = -2 // the small number 0
)

// frame is which values lie where among a call's held words. The last place has one that is still wanted.
type frame struct {
	*body
	places []int
	home   []int // of each value where it lies, if it does
	keeps  []int // of each value how many tries about a node want it behind that
	needs  int   // how many words there must be room for
}

func newFrame(b *body, params int) *frame {
	f := &frame{body: b, home: make([]int, len(b.uses)), keeps: make([]int, len(b.uses))}
	for x := range params {
		f.put(x)
	}
	return f
}

// reach has a number of words be needed.
func (f *frame) reach(words int) { f.needs = max(f.needs, words) }

func (f *frame) lies(x int) bool { return f.home[x] < len(f.places) && f.places[f.home[x]] == x }

// put gives a value a place, if it has none.
func (f *frame) put(x int) int {
	if f.lies(x) {
		return f.home[x]
	}
	at := slices.IndexFunc(f.places, func(x int) bool { return x < 0 })
	if at < 0 {
		at = len(f.places)
		f.places = append(f.places, x)
		f.reach(len(f.places))
	}
	f.places[at], f.home[x] = x, at
	return at
}

// letGo lets values go that are not wanted.
func (f *frame) letGo(all []int, isWanted func(x int) bool) {
	for _, x := range all {
		if x >= 0 && f.lies(x) && !isWanted(x) {
			f.places[f.home[x]] = stale
		}
	}
	f.cut()
}

// cut leaves no place at the end that has no value.
func (f *frame) cut() {
	n := len(f.places)
	for n > 0 && f.places[n-1] < 0 {
		n--
	}
	f.places = f.places[:n]
}

// isWanted tells whether a value will be read by some nodes, or behind tries about them.
func (f *frame) isWanted(x, from, to int) bool { return f.keeps[x] > 0 || f.isRead(x, from, to) }

// enter lets all values go that are not wanted by some nodes, which are gone on with.
func (f *frame) enter(from, to int) {
	f.letGo(f.places, func(x int) bool { return f.isWanted(x, from, to) })
}

// keep keeps the values that some nodes want; the answer lets them go again.
func (f *frame) keep(from, to int) (release func()) {
	var kept []int
	for _, x := range f.places {
		if x >= 0 && f.isRead(x, from, to) {
			f.keeps[x]++
			kept = append(kept, x)
		}
	}
	return func() {
		for _, x := range kept {
			f.keeps[x]--
		}
	}
}

// saved is what lies where; back makes it so again.
func (f *frame) saved() []int { return slices.Clone(f.places) }

func (f *frame) back(saved []int) {
	f.places = append(f.places[:0], saved...)
	for at, x := range f.places {
		if x >= 0 {
			f.home[x] = at
		}
	}
}

// spoil has no place be known to be clean.
func (f *frame) spoil() {
	for i, x := range f.places {
		if x == clean {
			f.places[i] = stale
		}
	}
}

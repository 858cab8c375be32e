package match

import (
	"slices"

	"smithy/api"
)

// row is a row of shapes: a stretch of them, and what stands behind it. A stretch is empty only if there are no shapes left.
type row struct {
	first []shape
	rest  *row
}

// opened is the row with others in its first shape's place.
func (r row) opened(kids []shape) row {
	if behind := r.first[1:]; len(behind) > 0 {
		r = row{behind, r.rest}
	} else if r.rest != nil {
		r = *r.rest
	} else {
		return row{first: kids}
	}
	if len(kids) == 0 {
		return r
	}
	rest := r
	return row{kids, &rest}
}

// tooMany is thrown where one more question is asked than may be.
type tooMany struct{}

// asker asks whether rows are useful, and counts what it asks.
type asker struct {
	heads
	asked int
	looks int     // how many times it was looked which heads rows have
	wild  []shape // shapes that everything fits
}

func newAsker() *asker { return &asker{heads: newHeads()} }

// anything is so many shapes that everything fits.
func (a *asker) anything(many int) []shape {
	for len(a.wild) < many {
		a.wild = append(a.wild, shape{})
	}
	return a.wild[:many]
}

// ask counts a question.
func (a *asker) ask() {
	if a.asked == api.MaxMatch {
		panic(tooMany{})
	}
	a.asked++
}

// isUseful tells whether a row is useful behind others. The last question that is asked within one is asked in its place, and of
// rows that were made for this one, in room, those are made for that.
func (a *asker) isUseful(r row, behind []row) bool {
	var room []row
	for {
		a.ask()
		if len(r.first) == 0 {
			return len(behind) == 0
		}
		if first := &r.first[0]; first.head != 0 {
			r, behind = r.opened(first.kids), a.openedBy(first.head, behind, room)
		} else if all := a.whole(behind); len(all) == 0 {
			r, behind = r.opened(nil), withoutHead(behind, room)
		} else {
			last := all[len(all)-1]
			for _, head := range all[:len(all)-1] {
				if a.isUseful(r.opened(a.kidsOf(head)), a.openedBy(head, behind, nil)) {
					return true
				}
			}
			r, behind = r.opened(a.kidsOf(last)), a.openedBy(last, behind, room)
		}
		room = behind[:0]
	}
}

// kidsOf is as many shapes that everything fits as a head has kids.
func (a *asker) kidsOf(number int) []shape { return a.anything(a.of(number).kids) }

// openedBy are rows that are opened by a head, in room. Of rows without shapes, which are all the same, it is the first one alone.
func (a *asker) openedBy(number int, rows, room []row) []row {
	for i := range rows {
		switch first := &rows[i].first[0]; first.head {
		case 0:
			room = append(room, rows[i].opened(a.kidsOf(number)))
		case number:
			room = append(room, rows[i].opened(first.kids))
		}
		if len(room) == 1 && len(room[0].first) == 0 {
			return room
		}
	}
	return room
}

// withoutHead are those rows whose first shape everything fits, without it, in room; of rows without shapes as openedBy.
func withoutHead(rows, room []row) []row {
	for i := range rows {
		if rows[i].first[0].head == 0 {
			room = append(room, rows[i].opened(nil))
		}
		if len(room) == 1 && len(room[0].first) == 0 {
			return room
		}
	}
	return room
}

// whole are the heads of the rows' first shapes, as they are met, if there is one for each value that there is; else none.
func (a *asker) whole(rows []row) []int {
	all, span := a.met(rows)
	if len(all) == 0 || !a.of(all[0]).isTagged() {
		return nil
	}
	var tags []int
	for _, number := range all {
		if h := a.of(number); h.isTagged() {
			tags = append(tags, h.n)
		}
	}
	slices.Sort(tags)
	if len(slices.Compact(tags)) != span {
		return nil
	}
	return all
}

// met are the unlike heads of the rows' first shapes, as they are met, and the span of the first one.
func (a *asker) met(rows []row) (all []int, span int) {
	a.looks++
	for i := range rows {
		first := &rows[i].first[0]
		if first.head == 0 || a.of(first.head).looked == a.looks {
			continue
		}
		a.of(first.head).looked = a.looks
		if len(all) == 0 {
			span = first.span
		}
		all = append(all, first.head)
	}
	return all, span
}

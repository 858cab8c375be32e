package match

import "smithy/api"

// warnings are those of all cases of a term that may be. More questions than may be asked are thrown.
func warnings(c *api.Core) (list []api.Warning, e api.Errno) {
	defer func() {
		if recover() != nil {
			list, e = nil, api.ErrLong
		}
	}()
	w := &warner{asker: newAsker()}
	w.term(c)
	return w.list, api.OK
}

// warner goes through a term's cases, in the order of their numbers.
type warner struct {
	*asker
	cases int
	list  []api.Warning
}

func (w *warner) term(c *api.Core) {
	if c.Kind != api.CoreCase {
		for i := range c.Kids {
			w.term(&c.Kids[i])
		}
		return
	}
	w.rows(c.Rows)
	w.term(&c.Kids[0])
	for i := range c.Rows {
		w.term(&c.Rows[i].E)
	}
	w.term(&c.Kids[1])
}

// rows warns of what is wrong with the rows of the next case.
func (w *warner) rows(l []api.Row) {
	number := w.cases
	w.cases++
	shapes, rows := make([]shape, len(l)), make([]row, len(l))
	for i := range l {
		shapes[i] = w.shape(&l[i].S)
		rows[i].first = shapes[i : i+1]
	}
	for i := range rows {
		if !w.isUseful(rows[i], rows[:i]) {
			w.list = append(w.list, api.Warning{Case: number, Row: i})
		}
	}
	if w.isUseful(row{first: w.anything(1)}, rows) {
		w.list = append(w.list, api.Warning{Case: number, Row: -1})
	}
}

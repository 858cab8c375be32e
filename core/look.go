package core

import "smithy/api"

// counter counts terms and shapes. It goes no further once there are too many, as terms may hold themselves.
type counter struct{ many int }

// more counts so many more, and tells whether they are still to be gone through.
func (n *counter) more(many int) bool {
	n.many += many
	return n.many <= api.MaxCode
}

// within counts what stands in a term.
func (n *counter) within(c *api.Core) {
	if !n.more(len(c.Kids)) || !n.more(2*len(c.Rows)) {
		return
	}
	for i := range c.Kids {
		n.within(&c.Kids[i])
	}
	for i := range c.Rows {
		n.withinShape(&c.Rows[i].S)
		n.within(&c.Rows[i].E)
	}
}

func (n *counter) withinShape(s *api.Shape) {
	if !n.more(len(s.Kids)) {
		return
	}
	for i := range s.Kids {
		n.withinShape(&s.Kids[i])
	}
}

// isPlain tells whether no case is among a term and what stands in it. Rows are not looked at: only a case has them. Kids are
// remembered by their first one, and how many of them were looked at: terms may share them, and hold themselves.
func isPlain(c *api.Core) bool {
	looked := map[*api.Core]int{}
	for todo := [][]api.Core{{*c}}; len(todo) > 0; {
		row := todo[len(todo)-1]
		todo = todo[:len(todo)-1]
		for i := range row {
			kids := row[i].Kids
			if row[i].Kind == api.CoreCase {
				return false
			}
			if len(kids) > 0 && looked[&kids[0]] < len(kids) {
				todo = append(todo, kids[looked[&kids[0]]:])
				looked[&kids[0]] = len(kids)
			}
		}
	}
	return true
}

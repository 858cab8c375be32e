package elab

import (
	"slices"

	"smithy/api"
	"smithy/big"
	"smithy/front"
)

// isPlain tells whether each value of its type fits a pattern, and it has no parts that are to be looked at.
func isPlain(p *api.Pat) bool {
	switch p.Kind {
	case api.PatWild, api.PatVar:
		return true
	case api.PatRecord:
		return len(p.Labels) == 0 && len(p.Kids) == 0
	case api.PatAs, api.PatTyped:
		return len(p.Kids) == 1 && isPlain(&p.Kids[0])
	}
	return false
}

// alias lets the names of a plain pattern stand for what a name of Core holds.
func (s *scope) alias(p *api.Pat, name string) {
	if p.Kind == api.PatVar || p.Kind == api.PatAs {
		s.declareVariable(p.Name, name)
	}
	for i := range p.Kids {
		s.alias(&p.Kids[i], name)
	}
}

// bound is what stands behind a pattern that a value fits, given the names that are known there; otherwise is what comes of
// one that doesn't.
func (m *maker) bound(p *api.Pat, of, otherwise api.Core, at *scope, behind func(at *scope) api.Core) api.Core {
	if isPlain(p) {
		return m.named(of, p.Name, func(name string) api.Core {
			at.alias(p, name)
			return behind(at)
		})
	}
	s := m.shape(p, at)
	return cases(of, otherwise, []api.Row{{S: s, E: behind(at)}})
}

// rules is what comes of the first rule that a value fits, or otherwise. They make a case, also where there is nothing to ask:
// whoever counts cases counts one for each fn, fun, case and handle.
func (m *maker) rules(l []api.Rule, of, otherwise api.Core, at *scope) api.Core {
	var rows []api.Row
	for i := range l {
		inner := at.within()
		s := m.shape(&l[i].P, inner)
		rows = append(rows, api.Row{S: s, E: m.exp(&l[i].E, inner)})
	}
	return cases(of, otherwise, rows)
}

// shape is that of a pattern, whose names are declared.
func (m *maker) shape(p *api.Pat, at *scope) api.Shape {
	switch p.Kind {
	case api.PatWild:
		return api.Shape{Kind: api.ShapeAny}
	case api.PatVar:
		return m.shapeNamed(api.Shape{Kind: api.ShapeAny}, p.Name, at)
	case api.PatInt:
		return api.Shape{Kind: api.ShapeInt, Int: big.Norm(p.Int)}
	case api.PatChar:
		return api.Shape{Kind: api.ShapeSmall, N: p.N, Span: spanChar}
	case api.PatText:
		return api.Shape{Kind: api.ShapeText, Text: p.Text}
	case api.PatCon:
		return m.constructed(p, at.value(p.Name), at)
	case api.PatList:
		return listShape(m.shapes(p.Kids, at))
	case api.PatRecord:
		if len(p.Labels) == len(p.Kids) {
			return recordShape(ordered(m.shapes(p.Kids, at), p.Labels))
		}
	case api.PatTyped:
		if len(p.Kids) == 1 {
			return m.shape(&p.Kids[0], at)
		}
	case api.PatAs:
		if len(p.Kids) == 1 {
			return m.shapeNamed(m.shape(&p.Kids[0], at), p.Name, at)
		}
	}
	return api.Shape{}
}

func (m *maker) shapes(l []api.Pat, at *scope) []api.Shape {
	out := make([]api.Shape, len(l))
	for i := range l {
		out[i] = m.shape(&l[i], at)
	}
	return out
}

// shapeNamed is a shape whose value has a name. If one of Core holds it already, that does under both names.
func (m *maker) shapeNamed(s api.Shape, name string, at *scope) api.Shape {
	if s.Name == "" {
		s.Name = m.newName(name)
	}
	at.declareVariable(name, s.Name)
	return s
}

// constructed is the shape of what a constructor or an exception has made.
func (m *maker) constructed(p *api.Pat, v meaning, at *scope) api.Shape {
	if v.hasArg != (len(p.Kids) == 1) || len(p.Kids) > 1 {
		return api.Shape{}
	}
	switch v.sort {
	case sortConstructor:
		if v.hasArg {
			return api.Shape{Kind: api.ShapeBlock, N: v.number, Span: v.span, Kids: m.shapes(p.Kids, at)}
		}
		return api.Shape{Kind: api.ShapeSmall, N: v.number, Span: v.span}
	case sortException, sortBuiltIn:
		kids := []api.Shape{{Kind: api.ShapeAny}}
		if v.hasArg {
			kids = m.shapes(p.Kids, at)
		}
		return api.Shape{Kind: api.ShapeExn, Cell: m.cellName(v), Kids: kids}
	}
	return api.Shape{}
}

// cellName is the name that holds an exception's cell.
func (m *maker) cellName(v meaning) string {
	if v.sort == sortException {
		return v.name
	}
	if m.cells[v.number] == "" {
		m.cells[v.number] = m.newName("cell")
	}
	return m.cells[v.number]
}

// ordered are the parts of a record in the order of its labels.
func ordered(l []api.Shape, labels []string) []api.Shape {
	out := make([]api.Shape, len(l))
	for i, place := range front.Places(labels) {
		out[place] = l[i]
	}
	return out
}

func recordShape(kids []api.Shape) api.Shape {
	if len(kids) == 0 {
		kids = nil
	}
	return api.Shape{Kind: api.ShapeBlock, N: tagRecord, Span: spanRecord, Kids: kids}
}

// listShape is the shape of a list of as many elements.
func listShape(items []api.Shape) api.Shape {
	s := api.Shape{Kind: api.ShapeSmall, N: tagEnd, Span: spanList}
	for _, item := range slices.Backward(items) {
		pair := recordShape([]api.Shape{item, s})
		s = api.Shape{Kind: api.ShapeBlock, N: tagCons, Span: spanList, Kids: []api.Shape{pair}}
	}
	return s
}

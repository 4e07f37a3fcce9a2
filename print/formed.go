package print

import (
	"gatepost/api"
	"gatepost/syntax"
)

// measurer tells how deep trees are that layer 8 can have read. It keeps what it told of each part, as parts may share their memory: 0, as long as it isn't told.
type measurer map[*syntax.Expr]int

// depth is how deep a tree is: 0, if layer 8 can't have read it. It goes down and up again in a loop, as a tree that no tokens stand for may be deeper than calls can go.
func (m measurer) depth(e *syntax.Expr) int {
	for way := []*syntax.Expr{e}; len(way) > 0; {
		last := way[len(way)-1]
		if !formedAlone(last) {
			return 0
		}
		m[last] = 0
		part, deepest := m.below(last)
		if part == nil {
			m[last] = deepest + 1
			way = way[:len(way)-1]
			continue
		}
		// A part that was met, but isn't told, is on the way here: it holds itself.
		if _, met := m[part]; met {
			return 0
		}
		way = append(way, part)
	}
	return m[e]
}

// below is the first part that isn't told; or, if all are, how deep the deepest is.
func (m measurer) below(e *syntax.Expr) (*syntax.Expr, int) {
	deepest := 0
	for i := range e.Parts {
		part := &e.Parts[i]
		if m[part] == 0 {
			return part, 0
		}
		deepest = max(deepest, m[part])
	}
	return nil, deepest
}

// formedAlone is whether layer 8 can have read an expression, whatever its parts are.
func formedAlone(e *syntax.Expr) bool {
	if len(e.Parts) != shapeOf(e.Op).parts {
		return false
	}
	switch e.Op {
	case "value":
		return isLiteral(e.V) && e.Who == "" && e.Name == ""
	case "attr", "has":
		return isNone(e.V) && isWho(e.Who) && isName(e.Name)
	case "role":
		return isNone(e.V) && e.Who == "" && isText(e.Name)
	}
	return isNone(e.V) && e.Who == "" && e.Name == ""
}

// formedDoc is whether layer 8 can have read a document, however long it is.
func formedDoc(d *syntax.Doc) bool {
	for _, f := range d.Facts {
		if !formedFact(f) {
			return false
		}
	}
	m := measurer{}
	for i := range d.Policies {
		if !m.formedPolicy(&d.Policies[i]) {
			return false
		}
	}
	return isWord(d.Use)
}

func formedFact(f syntax.Fact) bool {
	return isWho(f.Who) && isName(f.Name) && kindTruth <= f.Kind && f.Kind <= kindTime
}

func (m measurer) formedPolicy(p *syntax.Policy) bool {
	for i := range p.Rules {
		if !m.formedRule(&p.Rules[i]) {
			return false
		}
	}
	return isName(p.Name) && isName(p.By) && isWord(p.Use) && m.formedWithin(p.HasFor, &p.For)
}

func (m measurer) formedRule(u *syntax.Rule) bool {
	return isName(u.Name) && m.formedWithin(u.HasIf, &u.If) && allTexts(u.Duties) && allTexts(u.Advice)
}

// formedWithin is whether layer 8 can have read a document's expression; or, where it says that it has none, whether it has none.
func (m measurer) formedWithin(has bool, e *syntax.Expr) bool {
	if !has {
		return syntax.Same(*e, syntax.Expr{})
	}
	depth := m.depth(e)
	return 0 < depth && depth <= api.MaxDepth
}

func allTexts(l []string) bool {
	for _, s := range l {
		if !isText(s) {
			return false
		}
	}
	return true
}

package check

import (
	"gatepost/api"
	"gatepost/syntax"
	"gatepost/value"
)

// The types: of values that are no bags their kinds, of a bag bagOf and the type of what is in it.
const (
	truth  = 1
	number = 2
	time   = 4
	bagOf  = 10
)

// kindBag is the kind of values that are bags.
const kindBag = 5

// reach is how many levels down tell goes by calling itself: as many as an expression of a document has.
const reach = api.MaxDepth

// typer tells the types of expressions, all by the same facts.
type typer struct {
	facts map[attribute]int
	told  map[*syntax.Expr]int // of those with parts; 0 of one that waits to be told
	deep  *syntax.Expr         // the part at which tell stopped last, as it was too deep
}

func newTyper(facts []syntax.Fact) typer {
	t := typer{map[attribute]int{}, map[*syntax.Expr]int{}, nil}
	for _, f := range facts {
		a := attribute{f.Who, f.Name}
		if _, again := t.facts[a]; !again {
			t.facts[a] = factType(f)
		}
	}
	return t
}

// factType is the type that a fact says. Whether its kind is one isn't asked: layer 8 reads no others.
func factType(f syntax.Fact) int {
	if f.Bag {
		return bagOf + f.Kind
	}
	return f.Kind
}

// whole is an expression's type, however deep the expression is. Calls can't go as deep as a tree that no tokens stand for: a part that tell can't reach waits in a row, and is told ahead of what it is a part of.
func (t *typer) whole(e *syntax.Expr) (int, api.Errno) {
	row := []*syntax.Expr{e}
	for {
		kind, fault := t.tell(row[len(row)-1], reach)
		if fault != api.ErrDepth {
			row = row[:len(row)-1]
			if fault != api.OK || len(row) == 0 {
				return kind, fault
			}
			continue
		}
		// A part that waits already waits for itself: what holds itself is no tree.
		if _, waits := t.told[t.deep]; waits {
			return 0, api.ErrForm
		}
		t.told[t.deep] = 0
		row = append(row, t.deep)
	}
}

// tell is an expression's type, by calling itself for its parts: ErrDepth, if there are more levels to go down than room, and one isn't told yet. What is told is told once, as parts may share their memory.
func (t *typer) tell(e *syntax.Expr, room int) (int, api.Errno) {
	if len(e.Parts) != partsOf(e.Op) {
		return 0, api.ErrForm
	}
	if len(e.Parts) == 0 {
		return t.tellAlone(e)
	}
	if kind := t.told[e]; kind != 0 {
		return kind, api.OK
	}
	if room == 0 {
		t.deep = e
		return 0, api.ErrDepth
	}
	var of [2]int
	for i := range e.Parts {
		kind, fault := t.tell(&e.Parts[i], room-1)
		if fault != api.OK {
			return 0, fault
		}
		of[i] = kind
	}
	kind := opType(e.Op, of[0], of[1])
	if kind == 0 {
		return 0, api.ErrType
	}
	t.told[e] = kind
	return kind, api.OK
}

// partsOf is how many parts an op has: -1, if it is none of layer 8's.
func partsOf(op string) int {
	switch op {
	case "value", "now", "attr", "has", "role":
		return 0
	case "size", "not", "neg":
		return 1
	case "and", "or", "+", "-", "*", "==", "!=", "<", "<=", ">", ">=", "in":
		return 2
	}
	return -1
}

// tellAlone is the type of an expression whose op has no parts.
func (t *typer) tellAlone(e *syntax.Expr) (int, api.Errno) {
	switch e.Op {
	case "value":
		return valueType(e.V)
	case "now":
		return time, api.OK
	case "role":
		return truth, api.OK
	}
	kind, is := t.facts[attribute{e.Who, e.Name}]
	switch {
	case !is:
		return 0, api.ErrNone
	case e.Op == "has":
		return truth, api.OK
	}
	return kind, api.OK
}

// valueType is the type of a value that an expression may have.
func valueType(v api.Value) (int, api.Errno) {
	switch {
	case !value.Formed(v) || v.Kind == 0:
		return 0, api.ErrForm
	case v.Kind != kindBag:
		return v.Kind, api.OK
	case len(v.L) == 0:
		return 0, api.ErrForm
	}
	return bagOf + v.L[0].Kind, api.OK
}

// opType is the type of an op whose parts have the types a and b (of one part a alone): 0, if it takes no such parts.
func opType(op string, a, b int) int {
	switch op {
	case "+", "-", "*":
		return reckoned(op, a, b)
	case "neg":
		return onlyIf(a == number, number)
	case "size":
		return onlyIf(isBag(a), number)
	case "not":
		return onlyIf(a == truth, truth)
	case "and", "or":
		return onlyIf(a == truth && b == truth, truth)
	case "in":
		return onlyIf(isBag(b) && b == bagOf+a, truth)
	case "==", "!=":
		return onlyIf(a == b, truth)
	}
	return onlyIf(a == b && a != truth && !isBag(a), truth)
}

// onlyIf is the type, if that is so.
func onlyIf(so bool, kind int) int {
	if so {
		return kind
	}
	return 0
}

// isBag is whether a type is a bag's.
func isBag(kind int) bool {
	return bagOf+truth <= kind && kind <= bagOf+time
}

// reckoned is the type of what layer 2 makes of two types: it is asked with the nought of each, as noughts are never too much. A bag's type is no value's kind, and so nothing that it takes.
func reckoned(op string, a, b int) int {
	x, y := api.Value{Kind: a}, api.Value{Kind: b}
	var v api.Value
	switch op {
	case "+":
		v, _ = value.Add(x, y)
	case "-":
		v, _ = value.Sub(x, y)
	case "*":
		v, _ = value.Mul(x, y)
	}
	return v.Kind
}

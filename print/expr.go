package print

import (
	"slices"

	"gatepost/lex"
	"gatepost/syntax"
)

// shape is how an op's tokens go together: how strongly it binds, how many parts it has, and how strongly each of them has to bind at least.
type shape struct {
	binds, parts int
	least        [2]int
}

// shapeOf is an op's shape: one of -1 parts, if it is none of layer 8's.
func shapeOf(op string) shape {
	switch op {
	case "or":
		return shape{0, 2, [2]int{0, 1}}
	case "and":
		return shape{1, 2, [2]int{1, 2}}
	case "not":
		return shape{2, 1, [2]int{2}}
	case "==", "!=", "<", "<=", ">", ">=", "in":
		return shape{3, 2, [2]int{4, 4}}
	case "+", "-":
		return shape{4, 2, [2]int{4, 5}}
	case "*":
		return shape{5, 2, [2]int{5, 6}}
	case "neg":
		return shape{6, 1, [2]int{6}}
	case "size":
		return shape{7, 1, [2]int{0}}
	case "value", "now", "attr", "has", "role":
		return shape{binds: 7}
	}
	return shape{parts: -1}
}

// piece is a part that is still to be written, and how strongly it has to bind at least; or, where there is none, a token.
type piece struct {
	token lex.Token
	part  *syntax.Expr
	least int
}

// written is the tokens of a formed expression. What is still to be written waits in a row, its first piece last, as a tree may be deeper than calls can go.
func written(e *syntax.Expr) []lex.Token {
	var l []lex.Token
	for wait := []piece{{part: e}}; len(wait) > 0; {
		next := wait[len(wait)-1]
		wait = wait[:len(wait)-1]
		if next.part == nil {
			l = append(l, next.token)
			continue
		}
		row := next.row()
		slices.Reverse(row)
		wait = append(wait, row...)
	}
	return l
}

// row is the pieces that a part is made of, with brackets round them, if it binds less than it has to.
func (p piece) row() []piece {
	row := pieces(p.part)
	if shapeOf(p.part.Op).binds < p.least {
		return bracketed(row...)
	}
	return row
}

// pieces are what an expression is made of.
func pieces(e *syntax.Expr) []piece {
	switch e.Op {
	case "value":
		return these(literal(e.V)...)
	case "now":
		return these(word("now"))
	case "attr":
		return these(attribute(e.Who, e.Name)...)
	case "has":
		return append(these(word("has")), bracketed(these(attribute(e.Who, e.Name)...)...)...)
	case "role":
		return append(these(word("role")), bracketed(these(text(e.Name))...)...)
	case "size":
		return append(these(word("size")), bracketed(partOf(e, 0))...)
	case "not", "neg":
		return append(these(opToken(e.Op)), partOf(e, 0))
	}
	return []piece{partOf(e, 0), {token: opToken(e.Op)}, partOf(e, 1)}
}

// these are tokens as pieces.
func these(tokens ...lex.Token) []piece {
	var row []piece
	for _, t := range tokens {
		row = append(row, piece{token: t})
	}
	return row
}

// bracketed is a row with round brackets.
func bracketed(row ...piece) []piece {
	return slices.Concat(these(sign("(")), row, these(sign(")")))
}

// partOf is an expression's part as a piece.
func partOf(e *syntax.Expr, i int) piece {
	return piece{part: &e.Parts[i], least: shapeOf(e.Op).least[i]}
}

// opToken is the token of an op that stands between parts, or ahead of one.
func opToken(op string) lex.Token {
	switch op {
	case "or", "and", "not", "in":
		return word(op)
	case "neg":
		return sign("-")
	}
	return sign(op)
}

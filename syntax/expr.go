package syntax

import (
	"strings"

	"gatepost/api"
	"gatepost/value"
)

// exprReader reads expressions. Each call reads as many tokens as go on with what it read.
type exprReader struct {
	reader
}

// expr reads a whole expression, beginning with what binds loosest.
func (r *exprReader) expr() Expr {
	return r.row(r.ands, "or")
}

func (r *exprReader) ands() Expr {
	return r.row(r.not, "and")
}

func (r *exprReader) not() Expr {
	if r.takes("not") {
		return made("not", r.not())
	}
	return r.comparison()
}

// comparison reads one comparison at most: behind it another one's op is left.
func (r *exprReader) comparison() Expr {
	e := r.sum()
	if op := r.takesOne("==", "!=", "<", "<=", ">", ">=", "in"); op != "" {
		return made(op, e, r.sum())
	}
	return e
}

func (r *exprReader) sum() Expr {
	return r.row(r.product, "+", "-")
}

func (r *exprReader) product() Expr {
	return r.row(r.neg, "*")
}

func (r *exprReader) neg() Expr {
	if r.takes("-") {
		return made("neg", r.neg())
	}
	return r.plain()
}

// row reads parts with ops between that bind alike: the left ones come first.
func (r *exprReader) row(part func() Expr, ops ...string) Expr {
	e := part()
	for op := r.takesOne(ops...); op != ""; op = r.takesOne(ops...) {
		e = made(op, e, part())
	}
	return e
}

// made is the tree of an op and its parts.
func made(op string, parts ...Expr) Expr {
	return Expr{Op: op, Parts: parts}
}

// plain reads what binds strongest.
func (r *exprReader) plain() Expr {
	if v, is := r.literal(); is {
		return Expr{Op: "value", V: v}
	}
	switch r.ahead().S {
	case "subject", "resource", "action", "env":
		return r.attr("attr")
	}
	switch op := r.takesOne("now", "has", "role", "size", "[", "("); op {
	case "now":
		return Expr{Op: op}
	case "[":
		return r.bag()
	case "(":
		return r.closed(r.expr())
	case "has", "role", "size":
		r.needs("(")
		return r.closed(r.call(op))
	}
	r.stop()
	return Expr{}
}

// closed is e, with the bracket behind it read.
func (r *exprReader) closed(e Expr) Expr {
	r.needs(")")
	return e
}

// call reads what stands within the brackets of has, role or size.
func (r *exprReader) call(op string) Expr {
	switch op {
	case "has":
		return r.attr(op)
	case "role":
		return Expr{Op: op, Name: r.text()}
	}
	return made(op, r.expr())
}

// attr reads an attribute as the tree of an op.
func (r *exprReader) attr(op string) Expr {
	who, name := r.attribute()
	return Expr{Op: op, Who: who, Name: name}
}

// literal reads a number, a text, a time, or a truth, if one is ahead.
func (r *exprReader) literal() (api.Value, bool) {
	t := r.ahead()
	v := api.Value{}
	switch {
	case t.Kind == tokenNumber:
		v = value.Number(t.N)
	case t.Kind == tokenText:
		v = value.Text(strings.Clone(t.S))
	case t.Kind == tokenTime:
		v = api.Value{Kind: 4, I: t.N}
	case t.Kind == tokenWord && (t.S == "true" || t.S == "false"):
		v = value.Truth(t.S == "true")
	default:
		return v, false
	}
	r.pass()
	return v, true
}

// bag reads a bag behind its opening bracket. Whether its values are a bag's is asked when it is read whole.
func (r *exprReader) bag() Expr {
	open := r.at - 1
	l := []api.Value{r.member()}
	for r.takes(",") {
		l = append(l, r.member())
	}
	r.needs("]")
	v, e := value.Bag(l...)
	if e != api.OK {
		r.fail(api.ErrForm, open)
	}
	return Expr{Op: "value", V: v}
}

// member reads one of a bag's literals: a number may have a - ahead there, all else may not.
func (r *exprReader) member() api.Value {
	less := r.takes("-")
	if less && r.ahead().Kind != tokenNumber {
		r.stop()
	}
	v, is := r.literal()
	if !is {
		r.stop()
	}
	if less {
		return value.Number(-v.I)
	}
	return v
}

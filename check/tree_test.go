package check_test

import (
	"runtime/debug"
	"testing"

	"gatepost/api"
	"gatepost/check"
	"gatepost/syntax"
	"gatepost/value"
)

// chain is a tree of n levels above the last one, with one part on each.
func chain(op string, n int, last syntax.Expr) syntax.Expr {
	for range n {
		last = made(op, last)
	}
	return last
}

// full is a tree of n levels above the last one, whose parts are two of the same on each: as many as no memory would hold.
func full(op string, n int, last syntax.Expr) syntax.Expr {
	for range n {
		last = made(op, last, last)
	}
	return last
}

// row is a tree of n levels above the last one, with one more part on each, on this side or that.
func row(op string, n int, left bool, more, last syntax.Expr) syntax.Expr {
	for range n {
		if left {
			last = made(op, last, more)
		} else {
			last = made(op, more, last)
		}
	}
	return last
}

// depths are such as tokens stand for, and such as they don't: about MaxDepth, and twice and three times that, and far more.
func depths() []int {
	return []int{0, 1, 2, 10, 11, 12, 13, 14, 23, 24, 25, 26, 27, 36, 37, 100, 20000}
}

// R1 and P9.1: trees of all depths, right ones and ones that are wrong at the end.
func TestTypeDeep(t *testing.T) {
	one, yes, none := literal(value.Number(1)), literal(value.Truth(true)), attr("env", "x")
	for _, n := range depths() {
		has(t, chain("not", n, yes), 1)
		has(t, chain("neg", n, one), 2)
		for _, left := range []bool{true, false} {
			has(t, row("+", n, left, one, one), 2)
			has(t, row("==", n, left, yes, yes), 1)
			for _, c := range []struct {
				last syntax.Expr
				f    api.Errno
			}{{none, api.ErrNone}, {made("xor"), api.ErrForm}, {made("neg", yes), api.ErrType}, {literal(api.Value{}), api.ErrForm}} {
				wrong(t, row("or", n, left, yes, c.last), c.f)
				wrong(t, chain("size", n, c.last), c.f)
			}
		}
		has(t, row("-", n, true, one, syntax.Expr{Op: "now"}), 4)
		if n > 0 {
			wrong(t, chain("not", n, one), api.ErrType)
			wrong(t, chain("neg", n, yes), api.ErrType)
			wrong(t, row("and", n, false, yes, one), api.ErrType)
			wrong(t, row("+", n, false, one, syntax.Expr{Op: "now"}), api.ErrType)
			// The first part's error first, be it deep or not.
			wrong(t, made("+", chain("neg", n, yes), none), api.ErrType)
			wrong(t, made("+", none, chain("neg", n, yes)), api.ErrNone)
			wrong(t, made("+", chain("neg", n, one), none), api.ErrNone)
			wrong(t, made("and", row("and", n, true, none, yes), made("xor")), api.ErrNone)
		}
	}
	wrong(t, chain("size", 2, attr("env", "a11")), api.ErrType)
}

// R1: trees that are deeper than calls can go: these may go less deep here, so that smaller trees will do.
func TestTypeDeepest(t *testing.T) {
	defer debug.SetMaxStack(debug.SetMaxStack(1 << 22))
	one := literal(value.Number(1))
	for _, e := range []syntax.Expr{chain("neg", 300000, one), row("+", 300000, true, one, one), row("*", 300000, false, one, one), full("-", 300000, one)} {
		has(t, e, 2)
		wrong(t, made("not", e), api.ErrType)
		wrong(t, made("<", e, attr("env", "x")), api.ErrNone)
		wrong(t, round("+", e, 1), api.ErrForm)
	}
}

// R1: trees of many levels with two parts each, that share their memory and that don't.
func TestTypeWide(t *testing.T) {
	yes, one := literal(value.Truth(true)), literal(value.Number(1))
	for _, n := range []int{1, 11, 12, 13, 14, 25, 40, 300, 10000} {
		has(t, full("or", n, yes), 1)
		has(t, full("*", n, one), 2)
		wrong(t, full("and", n, one), api.ErrType)
		wrong(t, full("and", n, attr("env", "x")), api.ErrNone)
		wrong(t, made("or", full("and", n, yes), made("==", full("+", n, one), yes)), api.ErrType)
		has(t, made("or", full("and", n, yes), made("==", full("+", n, one), full("*", n, one))), 1)
	}
	var grown func(n int) syntax.Expr
	grown = func(n int) syntax.Expr {
		if n == 0 {
			return one
		}
		return made("+", grown(n-1), grown(n-1))
	}
	has(t, grown(17), 2)
	has(t, chain("neg", 9, grown(16)), 2)
	wrong(t, made("+", grown(16), made("not", grown(5))), api.ErrType)
}

// round is a tree that holds itself as its second part.
func round(op string, first syntax.Expr, between int) syntax.Expr {
	l := make([]syntax.Expr, 2)
	l[0] = first
	l[1] = row(op, between, false, first, made(op, l...))
	l[1].Parts = append([]syntax.Expr{}, l[1].Parts...)
	inner := &l[1]
	for range between {
		inner = &inner.Parts[1]
	}
	inner.Parts = l
	return l[1]
}

// R1: trees that hold themselves end too, with an error; what goes wrong ahead of that is told.
func TestTypeRound(t *testing.T) {
	yes := literal(value.Truth(true))
	for _, between := range []int{0, 1, 2, 10, 11, 12, 13, 14, 23, 24, 25, 26, 100, 3000} {
		e := round("or", yes, between)
		wrong(t, e, api.ErrForm)
		for _, n := range []int{0, 1, 5, 11, 12, 13, 30, 1000} {
			wrong(t, chain("not", n, e), api.ErrForm)
		}
		wrong(t, made("and", e, attr("env", "x")), api.ErrForm)
		wrong(t, made("and", attr("env", "x"), e), api.ErrNone)
		wrong(t, made("and", made("neg", yes), e), api.ErrType)
		wrong(t, round("or", attr("env", "x"), between), api.ErrNone)
		wrong(t, round("or", made("neg", yes), between), api.ErrType)
	}
	itself := make([]syntax.Expr, 1)
	itself[0] = made("not", itself...)
	itself[0].Parts = itself
	wrong(t, itself[0], api.ErrForm)
	itself[0].Op = "now"
	wrong(t, itself[0], api.ErrForm)
}

// R1 and P9.2: a document's trees that no tokens stand for.
func TestDocTrees(t *testing.T) {
	yes := literal(value.Truth(true))
	with := func(e, other syntax.Expr) syntax.Doc {
		return syntax.Doc{Use: "first", Policies: []syntax.Policy{{Name: "p", Use: "first", HasFor: true, For: e, Rules: []syntax.Rule{{Name: "a", HasIf: true, If: other}, {Name: "b", HasIf: true, If: e}}}}}
	}
	shared := full("or", 100, yes)
	for i, c := range []struct {
		d syntax.Doc
		f api.Errno
	}{
		{with(shared, shared), api.OK},
		{with(shared, made("neg", shared)), api.ErrType},
		{with(chain("not", 1000000, yes), shared), api.OK},
		{with(yes, chain("neg", 1000000, literal(value.Number(1)))), api.ErrType},
		{with(yes, round("or", yes, 3)), api.ErrForm},
		{with(round("or", yes, 3), attr("env", "x")), api.ErrForm},
		{with(yes, literal(api.Value{Kind: 5})), api.ErrForm},
		{with(made("if", yes), yes), api.ErrForm},
		{with(syntax.Expr{}, yes), api.ErrForm},
		{with(yes, made("and", yes)), api.ErrForm},
	} {
		if f := check.Doc(c.d); f != c.f {
			t.Error(i, f)
		}
	}
}

package print_test

import (
	"fmt"
	"runtime/debug"
	"slices"
	"strings"
	"testing"

	"gatepost/api"
	"gatepost/lex"
	"gatepost/print"
	"gatepost/syntax"
	"gatepost/value"
)

// chain is a tree of n levels above the last one, with one part on each.
func chain(op string, n int, last syntax.Expr) syntax.Expr {
	for range n {
		last = made(op, last)
	}
	return last
}

// row is a tree of n levels above the last one, with one more part on each, on this side or that.
func row(op string, n int, left bool, more, last syntax.Expr) syntax.Expr {
	for range n {
		if left {
			last = made(op, last, more)
		} else {
			last = made(op, more, last)
		}
	}
	return last
}

// full is a tree of n levels above the last one, whose parts are two of the same on each: as many as no memory would hold.
func full(op string, n int, last syntax.Expr) syntax.Expr {
	for range n {
		last = made(op, last, last)
	}
	return last
}

// shows is that a tree that may be too deep to be read is formed, and that these are its tokens.
func shows(t *testing.T, e syntax.Expr, want string) {
	t.Helper()
	if got := lex.Join(print.Expr(e)...); got != want || !print.Formed(e) {
		t.Errorf("%d bytes, not %d; formed: %v; %.100q, not %.100q", len(got), len(want), print.Formed(e), got, want)
	}
}

// P10.1 and R1: trees that are deeper than may be read, and than calls can go: these may go less deep here, so that smaller trees will do.
func TestExprDeepest(t *testing.T) {
	defer debug.SetMaxStack(debug.SetMaxStack(1 << 22))
	one, wrong := literal(value.Number(1)), literal(value.Number(-1))
	times := strings.Repeat
	for _, n := range []int{1, 2, 11, 12, 13, 14, 25, 1000, 100000} {
		shows(t, chain("neg", n, one), times("- ", n)+"1")
		shows(t, chain("not", n, one), times("not ", n)+"1")
		shows(t, chain("size", n, one), times("size ( ", n)+"1"+times(" )", n))
		shows(t, row("+", n, true, one, one), "1"+times(" + 1", n))
		shows(t, row("or", n, true, one, one), "1"+times(" or 1", n))
		shows(t, row("*", n, false, one, one), times("1 * ( ", n-1)+"1 * 1"+times(" )", n-1))
		shows(t, row("==", n, true, one, one), times("( ", n-1)+"1 == 1"+times(" ) == 1", n-1))
		for _, e := range []syntax.Expr{chain("neg", n, wrong), row("+", n, true, one, wrong), row("+", n, false, one, wrong), row("and", n, true, wrong, one), row("in", n, false, wrong, one), chain("not", n, made("xor")), chain("not", n, made("not"))} {
			if print.Formed(e) || len(print.Expr(e)) != 0 {
				t.Error(n)
			}
		}
	}
}

// P10.1 and R1: trees of many levels with two parts each, that share their memory.
func TestExprWide(t *testing.T) {
	one := literal(value.Number(1))
	for _, n := range []int{1, 2, 9, 10, 11, 12, 13, 16} {
		want := "1 + 1"
		for range n - 1 {
			want += " + ( " + want + " )"
		}
		shows(t, full("+", n, one), want)
	}
	for _, n := range []int{40, 300, 100000} {
		for _, op := range []string{"or", "*", "in"} {
			if !print.Formed(full(op, n, one)) || print.Formed(full(op, n, made("xor"))) || print.Formed(made("and", full(op, n, one), literal(api.Value{}))) {
				t.Error(op, n)
			}
		}
	}
	// The parts of each level are those of the two levels below.
	for _, n := range []int{3, 20, 100000} {
		l := make([]syntax.Expr, n)
		for i := range l {
			switch {
			case i < 2:
				l[i] = made("now")
			default:
				l[i] = made("and", l[i-2:i]...)
			}
		}
		if !print.Formed(l[n-1]) {
			t.Error(n)
		}
		l[0].Name = "a"
		if print.Formed(l[n-1]) {
			t.Error(n)
		}
	}
}

// round is a tree that holds itself, so many levels down.
func round(levels int) syntax.Expr {
	l := make([]syntax.Expr, 2*levels)
	for i := range levels {
		next := 2 * ((i + 1) % levels)
		l[2*i] = made("or", l[next:next+2]...)
		l[2*i+1] = made("now")
	}
	return l[0]
}

// rounds are trees that hold themselves, in one way or another.
func rounds() []syntax.Expr {
	itself := make([]syntax.Expr, 1)
	itself[0] = made("not", itself...)
	both := make([]syntax.Expr, 2)
	both[0], both[1] = made("+", both...), made("neg", both[:1]...)
	second := make([]syntax.Expr, 2)
	second[0], second[1] = made("now"), made("==", second...)
	l := []syntax.Expr{itself[0], both[0], both[1], second[1]}
	for _, n := range []int{1, 2, 3, 11, 12, 13, 24, 1000} {
		l = append(l, round(n))
	}
	return l
}

// R1: trees that hold themselves can't have been read.
func TestRound(t *testing.T) {
	yes := literal(value.Truth(true))
	for i, e := range rounds() {
		for _, e := range []syntax.Expr{e, made("not", e), made("and", yes, e), made("and", e, yes), chain("neg", 30, e), made("or", e, e), full("or", 100, e), made("or", full("or", 100, yes), e)} {
			if print.Formed(e) || len(print.Expr(e)) != 0 {
				t.Error(i)
			}
		}
		for _, place := range places() {
			fails(t, changed(t, func(d *syntax.Doc) { place(d, true, e) }), api.ErrForm)
			fails(t, changed(t, func(d *syntax.Doc) { place(d, false, e) }), api.ErrForm)
		}
	}
	v := api.Value{Kind: 5, L: make([]api.Value, 1)}
	v.L[0] = v
	unformed(t, literal(v))
	for _, place := range places() {
		fails(t, changed(t, func(d *syntax.Doc) { place(d, false, syntax.Expr{V: v}) }), api.ErrForm)
	}
}

// P10.2 and R1: documents of trees that no tokens stand for.
func TestDocTrees(t *testing.T) {
	defer debug.SetMaxStack(debug.SetMaxStack(1 << 22))
	yes := literal(value.Truth(true))
	for i, place := range places() {
		for _, c := range []struct {
			e    syntax.Expr
			want api.Errno
		}{
			{full("or", 5, yes), api.OK},
			{full("or", 9, yes), api.ErrLong},
			{full("or", 11, yes), api.ErrLong},
			{full("or", 12, yes), api.ErrForm},
			{full("or", 13, yes), api.ErrForm},
			{full("or", 300, yes), api.ErrForm},
			{full("or", 11, literal(bag(numbers(16)...))), api.ErrLong},
			{full("or", 11, made("xor")), api.ErrForm},
			{chain("not", 100000, yes), api.ErrForm},
			{row("or", 11, true, yes, yes), api.OK},
			{row("or", 12, true, yes, yes), api.ErrForm},
			{row("or", 100000, false, yes, yes), api.ErrForm},
		} {
			s, f := print.Doc(changed(t, func(d *syntax.Doc) { place(d, true, c.e) }))
			if f != c.want || (s == "") != (f != api.OK) {
				t.Error(i, f, c.want)
			}
			fails(t, changed(t, func(d *syntax.Doc) { place(d, false, c.e) }), api.ErrForm)
		}
	}
}

// R1: long documents whose rules have one great tree in common: it isn't asked, or written, anew for each.
func TestDocShared(t *testing.T) {
	yes := literal(value.Truth(true))
	great, greater := full("or", 11, literal(bag(numbers(16)...))), full("or", 5000, yes)
	wrong := full("or", 5000, made("xor"))
	for _, c := range []struct {
		e    syntax.Expr
		want api.Errno
	}{{great, api.ErrLong}, {greater, api.ErrForm}, {wrong, api.ErrForm}} {
		var rules []syntax.Rule
		var policies []syntax.Policy
		for i := range 5000 {
			rules = append(rules, syntax.Rule{Name: fmt.Sprint("a", i), HasIf: true, If: great})
			policies = append(policies, syntax.Policy{Name: fmt.Sprint("p", i), By: "root", Use: "first", HasFor: true, For: great})
		}
		rules[4999].If = c.e
		fails(t, syntax.Doc{Use: "first", Policies: []syntax.Policy{{Name: "p", By: "root", Use: "first", Rules: rules}}}, c.want)
		policies[4999].For = c.e
		fails(t, syntax.Doc{Use: "first", Policies: policies}, c.want)
		// All policies have the same rules, in one memory.
		for i := range policies {
			policies[i].Rules = rules[4000:]
		}
		fails(t, syntax.Doc{Use: "first", Policies: policies[:100]}, c.want)
	}
	one := []syntax.Rule{{Name: "a", HasIf: true, If: full("or", 3, yes)}}
	d := syntax.Doc{Use: "first", Policies: []syntax.Policy{{Name: "p", By: "root", Use: "first", Rules: one}, {Name: "q", By: "root", Use: "first", Rules: one}}}
	s, f := print.Doc(d)
	if f != api.OK || !sameDoc(parsed(t, s), d) {
		t.Error(f, s)
	}
}

// R1: long lists and long texts within.
func TestLongLists(t *testing.T) {
	long := strings.Repeat("x", 1<<20)
	for _, e := range []syntax.Expr{{Op: long}, attr("attr", long, "a"), attr("has", "env", long), role(long), literal(api.Value{Kind: 3, S: long}), literal(bag(api.Value{Kind: 3, S: long})), literal(bag(slices.Repeat([]api.Value{value.Number(1)}, 1<<18)...)), made("or", slices.Repeat([]syntax.Expr{made("now")}, 1<<16)...)} {
		if print.Formed(e) || len(print.Expr(e)) != 0 {
			t.Error(e.Op[:min(len(e.Op), 9)])
		}
		fails(t, changed(t, func(d *syntax.Doc) { d.Policies[0].For = e }), api.ErrForm)
	}
	d := whole(t)
	d.Facts = slices.Repeat(d.Facts, 1<<18)
	fails(t, d, api.ErrLong)
	d.Facts[1<<20-1].Kind = 5
	fails(t, d, api.ErrForm)
	d = whole(t)
	d.Policies = slices.Repeat(d.Policies, 1<<16)
	fails(t, d, api.ErrLong)
	d = whole(t)
	d.Policies[2].Rules = []syntax.Rule{{Name: "a", Duties: slices.Repeat([]string{"x"}, 1<<18)}}
	fails(t, d, api.ErrLong)
	d.Policies[2].Rules[0].Duties[1<<18-1] = "\n"
	fails(t, d, api.ErrForm)
}

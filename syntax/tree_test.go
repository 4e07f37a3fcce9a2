package syntax_test

import (
	"math"
	"reflect"
	"slices"
	"strings"
	"testing"

	"gatepost/api"
	"gatepost/syntax"
	"gatepost/value"
)

// P8.3: just the chapter's words are kept.
func TestKept(t *testing.T) {
	l := keptWords()
	if len(l) != 29 {
		t.Fatal(len(l))
	}
	for _, w := range l {
		if !syntax.Kept(w) {
			t.Error(w)
		}
		for _, other := range []string{w + "s", w + " ", " " + w, w[:len(w)-1], w[1:], strings.ToUpper(w), w + "\x00", strings.ToUpper(w[:1]) + w[1:], w + w} {
			if syntax.Kept(other) && !slices.Contains(l, other) {
				t.Errorf("%q", other)
			}
		}
	}
	for _, w := range []string{"", "a", "root", "first", "deny_overrides", "permit_overrides", "only_one", "value", "attr", "neg", "attribute", "kind", "rule", "rules", "expression", "word", "perhaps", "any", "then", "else", "document", "with", "{", ";", "==", "1", "none", "facts", "policies"} {
		if syntax.Kept(w) {
			t.Errorf("%q", w)
		}
	}
}

// P8.3: the depth of trees that tokens stand for.
func TestDepth(t *testing.T) {
	for s, want := range map[string]int{
		"1": 1, "now": 1, "[1, 2, 3]": 1, "env.a": 1, "has(env.a)": 1, `role("x")`: 1, "(((1)))": 1,
		"-1": 2, "not 1": 2, "size(1)": 2, "1 + 2": 2, "1 + 2 + 3": 3, "1 + (2 + 3)": 3, "1 + 2 * 3": 3,
		"1 * 2 + 3 * 4": 3, "not 1 == 2 + 3": 4, "1 or 2 and - - 3": 5, "- - 3 or 2 and 1": 4,
	} {
		e, _, f := syntax.ParseExpr(tokens(t, s))
		if f != api.OK || syntax.Depth(e) != want {
			t.Error(s, syntax.Depth(e), f)
		}
	}
}

// P8.3: the depth of trees that no tokens stand for.
func TestDepthStrange(t *testing.T) {
	leaf := syntax.Expr{}
	odd := syntax.Expr{Op: "x", V: api.Value{Kind: 9, L: []api.Value{{L: []api.Value{{}, {}}}}}, Who: "y", Name: "z"}
	for i, c := range []struct {
		e    syntax.Expr
		want int
	}{
		{leaf, 1},
		{odd, 1},
		{syntax.Expr{Op: "not", Parts: []syntax.Expr{}}, 1},
		{syntax.Expr{Parts: []syntax.Expr{leaf}}, 2},
		{syntax.Expr{Op: "value", V: value.Number(1), Parts: []syntax.Expr{leaf, odd, leaf}}, 2},
		{syntax.Expr{Op: "now", Parts: []syntax.Expr{{Parts: []syntax.Expr{leaf}}, leaf, leaf}}, 3},
		{syntax.Expr{Op: "now", Parts: []syntax.Expr{leaf, {Parts: []syntax.Expr{leaf}}, leaf}}, 3},
		{syntax.Expr{Op: "now", Parts: []syntax.Expr{leaf, leaf, {Parts: []syntax.Expr{leaf, odd, {Parts: []syntax.Expr{odd}}}}}}, 4},
		{syntax.Expr{Op: "now", Parts: []syntax.Expr{{Parts: []syntax.Expr{{Parts: []syntax.Expr{leaf}}}}, {Parts: []syntax.Expr{leaf}}}}, 4},
	} {
		if got := syntax.Depth(c.e); got != c.want {
			t.Error(i, got)
		}
	}
	for _, n := range []int{11, 12, 13, 100, 300000} {
		if got := syntax.Depth(chain(n)); got != n {
			t.Error(n, got)
		}
	}
	wide := syntax.Expr{Parts: make([]syntax.Expr, 100000)}
	if got := syntax.Depth(wide); got != 2 {
		t.Error(got)
	}
	wide.Parts[99999] = chain(5)
	if got := syntax.Depth(wide); got != 6 {
		t.Error(got)
	}
}

// chain is a tree of n levels, with one part on each but the last.
func chain(n int) syntax.Expr {
	e := syntax.Expr{Op: "now"}
	for range n - 1 {
		e = syntax.Expr{Op: "not", Parts: []syntax.Expr{e}}
	}
	return e
}

// full is a tree of n levels whose parts are the same list, twice on each: as many as no memory would hold.
func full(n int) syntax.Expr {
	e := syntax.Expr{Op: "now"}
	for range n - 1 {
		e = syntax.Expr{Op: "or", Parts: []syntax.Expr{e, e}}
	}
	return e
}

// round is a tree that holds itself.
func round(op string) syntax.Expr {
	l := make([]syntax.Expr, 2)
	l[0] = syntax.Expr{Op: "now"}
	l[1] = syntax.Expr{Op: op, Parts: l}
	return l[1]
}

// R1: trees whose parts share their memory, and such as hold themselves.
func TestTreesRound(t *testing.T) {
	if got := syntax.Depth(full(300)); got != 300 {
		t.Error(got)
	}
	if !syntax.Same(full(300), full(300)) || syntax.Same(full(300), full(301)) {
		t.Error("full")
	}
	if got := syntax.Depth(round("or")); got != math.MaxInt {
		t.Error(got)
	}
	if got := syntax.Depth(syntax.Expr{Parts: []syntax.Expr{chain(100), round("or")}}); got != math.MaxInt {
		t.Error(got)
	}
	if !syntax.Same(round("or"), round("or")) || syntax.Same(round("or"), round("and")) || syntax.Same(round("or"), full(9)) {
		t.Error("round")
	}
	// Two lists of one memory, of which the longer one has one more: whichever is asked first, that one is asked too.
	within := func(last string) syntax.Expr {
		l := []syntax.Expr{{Op: "now"}, {Op: last}}
		return syntax.Expr{Parts: []syntax.Expr{{Parts: l}, {Parts: l[:1]}}}
	}
	turned := func(last string) syntax.Expr {
		e := within(last)
		slices.Reverse(e.Parts)
		return e
	}
	for _, tree := range []func(string) syntax.Expr{within, turned} {
		if !syntax.Same(tree("x"), tree("x")) || syntax.Same(tree("x"), tree("y")) {
			t.Error("within")
		}
	}
	v := api.Value{Kind: 5, L: make([]api.Value, 1)}
	v.L[0] = v
	w := api.Value{Kind: 5, L: make([]api.Value, 1)}
	w.L[0] = w
	if !syntax.Same(syntax.Expr{V: v}, syntax.Expr{V: w}) || syntax.Same(syntax.Expr{V: v}, syntax.Expr{V: api.Value{Kind: 5, L: []api.Value{v, v}}}) {
		t.Error("values")
	}
}

// different are trees of which no two are the same, formed and not.
func different() []syntax.Expr {
	one, two := syntax.Expr{Op: "value", V: value.Number(1)}, syntax.Expr{Op: "value", V: value.Number(2)}
	l := []syntax.Expr{{}, one, two,
		{Op: "value"}, {Op: "value", V: value.Truth(true)}, {Op: "value", V: value.Text("1")}, {Op: "value", V: value.Text("")}, {Op: "value", V: api.Value{Kind: 4, I: 1}},
		{V: value.Number(1)}, {Op: "value", V: api.Value{Kind: 2, I: 1, S: "1"}}, {Op: "value", V: api.Value{Kind: 7, I: 1}}, {Op: "value", V: api.Value{Kind: -7, I: 1}},
		{Op: "value", V: api.Value{Kind: 3, I: 1, S: "1"}}, {Op: "value", V: api.Value{Kind: 2, I: 1, L: []api.Value{{}}}},
		{Op: "now"}, {Op: "now "}, {Op: "attr", Who: "env", Name: "a"}, {Op: "attr", Who: "env", Name: "b"}, {Op: "attr", Who: "subject", Name: "a"}, {Op: "has", Who: "env", Name: "a"}, {Op: "role", Name: "a"}, {Op: "role", Who: "a"}, {Op: "attr", Who: "enva"}, {Op: "attr", Name: "enva"},
		{Op: "not", Parts: []syntax.Expr{one}}, {Op: "neg", Parts: []syntax.Expr{one}}, {Op: "not", Parts: []syntax.Expr{two}}, {Op: "not"}, {Op: "not", Parts: []syntax.Expr{{}}}, {Op: "not", Parts: []syntax.Expr{{}, {}}},
		{Op: "+", Parts: []syntax.Expr{one, two}}, {Op: "+", Parts: []syntax.Expr{two, one}}, {Op: "+", Parts: []syntax.Expr{one, one}}, {Op: "+", Parts: []syntax.Expr{one, two, two}}, {Op: "+", Parts: []syntax.Expr{one}}, {Op: "-", Parts: []syntax.Expr{one, two}},
		{Op: "+", Parts: []syntax.Expr{one, {Op: "not", Parts: []syntax.Expr{one}}}}, {Op: "+", Parts: []syntax.Expr{one, {Op: "not", Parts: []syntax.Expr{two}}}}, {Op: "+", Parts: []syntax.Expr{{Op: "not", Parts: []syntax.Expr{one}}, one}},
		{Op: "value", V: value.Number(1), Parts: []syntax.Expr{one}},
	}
	for _, b := range [][]api.Value{nil, {{}}, {{}, {}}, {value.Number(1)}, {value.Number(1), value.Number(2)}, {value.Number(2), value.Number(1)}, {value.Number(1), value.Number(1)}, {value.Number(2)}, {value.Text("1")},
		{{Kind: 5, L: []api.Value{value.Number(1)}}}, {{Kind: 5, L: []api.Value{value.Number(2)}}}, {{Kind: 5}}, {{Kind: 2, I: 1, L: []api.Value{{}}}}, {{Kind: 2, I: 1, S: "x"}}, {{Kind: 5, L: []api.Value{{Kind: 5}}}}} {
		l = append(l, syntax.Expr{Op: "value", V: api.Value{Kind: 5, L: b}})
	}
	return l
}

// copied is the same tree in memory of its own; its lists without elements are empty, not nil.
func copied(e syntax.Expr) syntax.Expr {
	e.Op, e.Who, e.Name, e.V = strings.Clone(e.Op), strings.Clone(e.Who), strings.Clone(e.Name), copiedValue(e.V)
	l := make([]syntax.Expr, 0, len(e.Parts)+1)
	for _, p := range e.Parts {
		l = append(l, copied(p))
	}
	e.Parts = l
	return e
}

func copiedValue(v api.Value) api.Value {
	l := make([]api.Value, 0, len(v.L)+1)
	for _, w := range v.L {
		l = append(l, copiedValue(w))
	}
	v.S, v.L = strings.Clone(v.S), l
	return v
}

// P8.3: a tree is the same as itself and as a copy, and as no other one.
func TestSame(t *testing.T) {
	l := different()
	for i, a := range l {
		for j, b := range l {
			if syntax.Same(a, b) != (i == j) || syntax.Same(copied(a), b) != (i == j) || syntax.Same(a, copied(b)) != (i == j) {
				t.Errorf("%d and %d: %v, %v", i, j, a, b)
			}
		}
	}
}

// P8.3: trees that are other far down, or on one side alone.
func TestSameDeep(t *testing.T) {
	for _, n := range []int{2, 13, 300000} {
		a, b, c := chain(n), chain(n), chain(n+1)
		if !syntax.Same(a, b) || syntax.Same(a, c) || syntax.Same(c, a) {
			t.Error(n)
		}
		last := &b
		for len(last.Parts) > 0 {
			last = &last.Parts[0]
		}
		last.Name = "x"
		if syntax.Same(a, b) || syntax.Same(b, a) {
			t.Error(n)
		}
	}
	for s, other := range map[string]string{
		"1 + 2 + 3": "1 + (2 + 3)", "1 - 2": "2 - 1", "[1, 2]": "[1, 3]", "not env.a == 1": "(not env.a) == 1", "1 + 2 * 3": "1 * 2 + 3", "-1": "1", "[-1]": "[1]",
	} {
		a, _, _ := syntax.ParseExpr(tokens(t, s))
		b, _, _ := syntax.ParseExpr(tokens(t, other))
		if syntax.Same(a, b) || !syntax.Same(a, a) {
			t.Error(s, other)
		}
	}
	for s, other := range map[string]string{
		"1 + 2 + 3": "((1 + 2) + 3)", "[2, 1, 2]": "[1, 2]", "not env.a == 1": "(not ((env . a) == 1))", "[-0]": "[0]", "007": "7",
	} {
		a, _, _ := syntax.ParseExpr(tokens(t, s))
		b, _, _ := syntax.ParseExpr(tokens(t, other))
		if !syntax.Same(a, b) {
			t.Error(s, other)
		}
	}
}

// R5: what is asked is left as it is.
func TestTreesLeft(t *testing.T) {
	l := different()
	for _, a := range l {
		before := copied(a)
		syntax.Depth(a)
		syntax.Same(a, before)
		if !reflect.DeepEqual(copied(a), before) {
			t.Error(a)
		}
	}
}

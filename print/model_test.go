package print_test

import (
	"math/rand"
	"slices"
	"strings"
	"testing"

	"gatepost/api"
	"gatepost/lex"
	"gatepost/print"
	"gatepost/syntax"
	"gatepost/value"
)

// sure is a tree's tokens with brackets round each part, whether the tree is formed or not: if tokens stand for it at all, these do.
func sure(e syntax.Expr) []lex.Token {
	word := func(s string) lex.Token { return lex.Token{Kind: 1, S: s} }
	sign := func(s string) lex.Token { return lex.Token{Kind: 5, S: s} }
	in := func(begin, end string, l ...lex.Token) []lex.Token {
		return slices.Concat([]lex.Token{sign(begin)}, l, []lex.Token{sign(end)})
	}
	one := func(v api.Value) lex.Token {
		switch v.Kind {
		case 1:
			return word(map[int64]string{0: "false", 1: "true"}[v.I])
		case 2, 4:
			return lex.Token{Kind: v.Kind, N: v.I}
		case 3:
			return lex.Token{Kind: 3, S: v.S}
		}
		return lex.Token{}
	}
	attribute := []lex.Token{word(e.Who), sign("."), word(e.Name)}
	switch e.Op {
	case "value":
		if e.V.Kind != 5 {
			return []lex.Token{one(e.V)}
		}
		var l []lex.Token
		for _, v := range e.V.L {
			l = append(l, sign(","))
			if v.Kind == 2 && v.I < 0 {
				l = append(l, sign("-"))
				v.I = -v.I
			}
			l = append(l, one(v))
		}
		return in("[", "]", l[min(1, len(l)):]...)
	case "now":
		return []lex.Token{word("now")}
	case "attr":
		return attribute
	case "has":
		return append([]lex.Token{word("has")}, in("(", ")", attribute...)...)
	case "role":
		return append([]lex.Token{word("role")}, in("(", ")", lex.Token{Kind: 3, S: e.Name})...)
	}
	op := lex.Token{Kind: 5, S: map[string]string{"neg": "-"}[e.Op]}
	if op.S == "" {
		op.S = e.Op
	}
	if !lex.Formed(op) {
		op.Kind = 1
	}
	var l []lex.Token
	for i, p := range e.Parts {
		if i > 0 || len(e.Parts) == 1 {
			l = append(l, op)
		}
		l = append(l, in("(", ")", sure(p)...)...)
	}
	return l
}

// plainText is an expression's text by the chapter's words, with brackets if it binds less than it has to.
func plainText(e syntax.Expr, least int) string {
	binds := slices.IndexFunc([]string{"or", "and", "not", "== != < <= > >= in", "+ -", "*", "neg", e.Op}, func(s string) bool {
		return slices.Contains(strings.Fields(s), e.Op)
	})
	if binds < least {
		return "( " + plainText(e, 0) + " )"
	}
	want := needs()[e.Op]
	switch {
	case e.Op == "neg":
		return "- " + plainText(e.Parts[0], want[0])
	case e.Op == "size":
		return "size ( " + plainText(e.Parts[0], want[0]) + " )"
	case len(want) == 1:
		return e.Op + " " + plainText(e.Parts[0], want[0])
	case len(want) == 2:
		return plainText(e.Parts[0], want[0]) + " " + e.Op + " " + plainText(e.Parts[1], want[1])
	}
	return lex.Join(sure(e)...)
}

// readable is whether layer 8 reads a tree as it is, with brackets round each part.
func readable(e syntax.Expr) bool {
	again, _, f := syntax.ParseExpr(sure(e))
	return f == api.OK && syntax.Same(again, e)
}

// chance makes trees and documents by chance.
type chance struct {
	*rand.Rand
	// wrong is of how many things one is wrong.
	wrong int
}

// slip is whether something is to be wrong.
func (c chance) slip() bool {
	return c.wrong > 0 && c.Intn(c.wrong) == 0
}

func pick[T any](c chance, l ...T) T {
	return l[c.Intn(len(l))]
}

func (c chance) name() string {
	if c.slip() {
		return pick(c, "", "if", "truth", "A", "a b", "1", strings.Repeat("a", 65))
	}
	return pick(c, "a", "b1", "c_", strings.Repeat("z", 64))
}

func (c chance) who() string {
	if c.slip() {
		return pick(c, "", "me", "envs", "now")
	}
	return pick(c, "subject", "resource", "action", "env")
}

func (c chance) text() string {
	if c.slip() {
		return pick(c, "\n", "é", "\x7f", strings.Repeat("a", 65))
	}
	return pick(c, "", "a", "a b", `"`, `\`, `\"`, "# a", strings.Repeat("~", 64))
}

// alone is a value of a kind that is no bag.
func (c chance) alone(kind int) api.Value {
	switch {
	case c.slip():
		return pick(c, api.Value{}, api.Value{Kind: kind, I: -1}, api.Value{Kind: kind, I: 2, S: "a"}, api.Value{Kind: kind, I: 1<<40 + 1}, bag(value.Number(1)), api.Value{Kind: 7})
	case kind == 1:
		return value.Truth(c.Intn(2) == 0)
	case kind == 2:
		return value.Number(pick[int64](c, 0, 1, 2, 1000, most))
	case kind == 3:
		return value.Text(c.text())
	}
	return when(pick[int64](c, 0, 1, 77, 1<<40))
}

func (c chance) value() api.Value {
	kind := 1 + c.Intn(4)
	if c.Intn(3) > 0 {
		return c.alone(kind)
	}
	var l []api.Value
	for range 1 + c.Intn(4) {
		v := c.alone(kind)
		if kind == 2 && c.Intn(2) == 0 {
			v.I = pick(c, -v.I, -1, -5, least+1)
		}
		if kind == 2 && c.slip() {
			v.I = least
		}
		l = append(l, v)
	}
	v, f := value.Bag(l...)
	if f != api.OK || c.slip() {
		return bag(l...)
	}
	return v
}

// tree is a tree of at most so many levels.
func (c chance) tree(levels int) syntax.Expr {
	e := syntax.Expr{Op: pick(c, "or", "and", "not", "not", "==", "<", "in", "+", "-", "*", "*", "neg", "neg", "size", "!=", "<=", ">", ">=")}
	if levels == 1 || c.Intn(6) == 0 {
		e.Op = pick(c, "value", "value", "value", "now", "attr", "has", "role")
	}
	switch e.Op {
	case "value":
		e.V = c.value()
	case "attr", "has":
		e.Who, e.Name = c.who(), c.name()
	case "role":
		e.Name = c.text()
	case "now":
	default:
		for range len(needs()[e.Op]) {
			e.Parts = append(e.Parts, c.tree(levels-1))
		}
	}
	if !c.slip() {
		return e
	}
	switch c.Intn(8) {
	case 0:
		e.Op = pick(c, "", "xor", "or", "not", "value", "now", "attr", "has", "role", "size", "neg")
	case 1:
		e.Parts = append(e.Parts, made("now"))
	case 2:
		e.Parts = e.Parts[:max(0, len(e.Parts)-1)]
	case 3:
		e.Who = pick(c, "", "env", "a")
	case 4:
		e.Name = pick(c, "", "a", "if")
	case 5:
		e.V = c.value()
	case 6:
		e.V.L = pick(c, nil, []api.Value{}, []api.Value{value.Number(1)})
	case 7:
		e.V.I, e.V.S = c.Int63n(2), pick(c, "", "a")
	}
	return e
}

// P10.1 and P10.3: trees by chance: formed ones are those that layer 8 reads with all brackets; they are written by the chapter's words, and read as they were.
func TestExprByChance(t *testing.T) {
	formed, not, bracketed := 0, 0, 0
	for seed := range 20000 {
		c := chance{rand.New(rand.NewSource(int64(seed))), seed % 4 * 12}
		e := c.tree(1 + seed%7)
		if len(sure(e)) > api.MaxTokens {
			continue
		}
		if !readable(e) {
			not++
			if print.Formed(e) || len(print.Expr(e)) != 0 {
				t.Fatalf("seed %d: %v is formed", seed, e)
			}
			continue
		}
		formed++
		prints(t, e, plainText(e, 0))
		bracketed += min(1, strings.Count(lex.Join(print.Expr(e)...), "( not"))
	}
	if formed < 10000 || not < 5000 || bracketed < 2000 {
		t.Error(formed, not, bracketed)
	}
}

// without is tokens without a round bracket and the one that closes it.
func without(l []lex.Token, at int) []lex.Token {
	open, end := 1, at+1
	for ; open > 0; end++ {
		switch l[end].S {
		case "(":
			open++
		case ")":
			open--
		}
	}
	return slices.Concat(l[:at], l[at+1:end-1], l[end:])
}

// P10.1: each bracket is needed: without it the tokens are read as another tree, or not at all.
func TestBracketsNeeded(t *testing.T) {
	count := 0
	for seed := range 4000 {
		c := chance{rand.New(rand.NewSource(int64(seed))), 0}
		e := c.tree(2 + seed%4)
		l := print.Expr(e)
		for i, x := range l {
			if x.Kind != 5 || x.S != "(" || i > 0 && slices.Contains([]string{"has", "role", "size"}, l[i-1].S) {
				continue
			}
			count++
			if again, _, f := syntax.ParseExpr(without(l, i)); f == api.OK && syntax.Same(again, e) {
				t.Fatalf("%q: the bracket at %d", lex.Join(l...), i)
			}
		}
	}
	if count < 5000 {
		t.Error(count)
	}
}

// doc is a document of few lines.
func (c chance) doc() syntax.Doc {
	d := syntax.Doc{Use: pick(c, "first", "if", c.name())}
	for range c.Intn(4) {
		f := syntax.Fact{Who: c.who(), Name: c.name(), Kind: 1 + c.Intn(4), Bag: c.Intn(2) == 0}
		if c.slip() {
			f.Kind = pick(c, 0, 5, -1, 12)
		}
		d.Facts = append(d.Facts, f)
	}
	for range c.Intn(3) {
		p := syntax.Policy{Name: c.name(), By: c.name(), Use: pick(c, "first", "use", c.name())}
		p.HasFor, p.For = c.perhaps()
		for range c.Intn(3) {
			u := syntax.Rule{Name: c.name(), Permit: c.Intn(2) == 0}
			u.HasIf, u.If = c.perhaps()
			for range c.Intn(3) {
				u.Duties = append(u.Duties, c.text())
			}
			for range c.Intn(3) {
				u.Advice = append(u.Advice, c.text())
			}
			p.Rules = append(p.Rules, u)
		}
		d.Policies = append(d.Policies, p)
	}
	return d
}

// perhaps is an expression, or none.
func (c chance) perhaps() (bool, syntax.Expr) {
	has := c.Intn(2) == 0
	var e syntax.Expr
	if has != c.slip() {
		e = c.tree(1 + c.Intn(3))
	}
	if c.slip() {
		for range 9 + c.Intn(4) {
			e = made("not", e)
		}
	}
	return has, e
}

// plainDocText is a document's text by the chapter's words, and the tokens of it with brackets round each part of its expressions.
func plainDocText(d syntax.Doc) (string, []lex.Token) {
	var text strings.Builder
	var all []lex.Token
	// What is a letter, a quote and so on tells how a piece is shown: an expression comes as a tree.
	line := func(begin string, pieces ...any) {
		text.WriteString(begin)
		for i, x := range pieces {
			if i > 0 {
				text.WriteString(" ")
			}
			switch x := x.(type) {
			case lex.Token:
				text.WriteString(lex.Show(x))
				all = append(all, x)
			case syntax.Expr:
				text.WriteString(plainText(x, 0))
				all = append(all, sure(x)...)
			case string:
				text.WriteString(x)
				kind := 1
				if strings.Contains(".;{}", x) {
					kind = 5
				}
				all = append(all, lex.Token{Kind: kind, S: x})
			}
		}
		text.WriteString("\n")
	}
	for _, f := range d.Facts {
		l := []any{"fact", f.Who, ".", f.Name, map[int]string{1: "truth", 2: "number", 3: "text", 4: "time"}[f.Kind]}
		if f.Bag {
			l = append(l, "bag")
		}
		line("", append(l, ";")...)
	}
	line("", "use", d.Use, ";")
	for _, p := range d.Policies {
		line("", "policy", p.Name, "by", p.By, "use", p.Use, "{")
		if p.HasFor {
			line("  ", "for", p.For, ";")
		}
		for _, u := range p.Rules {
			l := []any{map[bool]string{true: "permit", false: "deny"}[u.Permit], u.Name}
			if u.HasIf {
				l = append(l, "if", u.If)
			}
			for _, s := range u.Duties {
				l = append(l, "duty", lex.Token{Kind: 3, S: s})
			}
			for _, s := range u.Advice {
				l = append(l, "advice", lex.Token{Kind: 3, S: s})
			}
			line("  ", append(l, ";")...)
		}
		line("", "}")
	}
	return text.String(), all
}

// mended is a document whose expressions, where one isn't formed, are others: so that plainDocText can write it.
func mended(d syntax.Doc) (syntax.Doc, bool) {
	d, right := plainDoc(d), true
	mend := func(has bool, e *syntax.Expr) {
		if has && !readable(*e) || !has && !syntax.Same(*e, syntax.Expr{}) {
			*e, right = made("now"), false
		}
	}
	for i := range d.Policies {
		p := &d.Policies[i]
		mend(p.HasFor, &p.For)
		for j := range p.Rules {
			mend(p.Rules[j].HasIf, &p.Rules[j].If)
		}
	}
	return d, right
}

// P10.2 and P10.3: documents by chance: those that layer 8 reads have the chapter's text, if it isn't too long, and are read as they were.
func TestDocByChance(t *testing.T) {
	count := map[api.Errno]int{}
	for seed := range 20000 {
		c := chance{rand.New(rand.NewSource(int64(seed))), seed % 4 * 20}
		d := c.doc()
		if seed%16 == 0 {
			d.Facts = slices.Repeat([]syntax.Fact{{Who: "env", Name: strings.Repeat("a", 1+seed/16%60), Kind: 1 + seed%4}}, 30+c.Intn(70))
		}
		plain, right := mended(d)
		want, all := plainDocText(plain)
		if len(all) > api.MaxTokens && seed%16 != 0 {
			continue
		}
		again, _, f := syntax.Parse(all)
		l, _, _ := lex.Lex(want)
		switch {
		case !right || f == api.ErrForm || f == api.OK && !sameDoc(again, d):
			fails(t, d, api.ErrForm)
			count[api.ErrForm]++
		case f == api.ErrMany:
			// Only what is formed is written as a long document here.
			if s, f := print.Doc(d); f == api.OK && (s != want || len(l) == 0) {
				t.Fatalf("seed %d: %d, %q, not %q", seed, f, s, want)
			}
		case len(want) > api.MaxBytes:
			fails(t, d, api.ErrLong)
			count[api.ErrLong]++
		default:
			writes(t, d, want)
			count[api.OK]++
		}
	}
	if count[api.OK] < 5000 || count[api.ErrForm] < 5000 || count[api.ErrLong] < 100 {
		t.Error(count)
	}
}

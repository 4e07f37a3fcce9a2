package syntax_test

import (
	"fmt"
	"math/rand"
	"slices"
	"strings"
	"testing"

	"gatepost/api"
	"gatepost/lex"
	"gatepost/syntax"
	"gatepost/value"
)

// grammar is the chapter's words as productions, one a line, those that end soonest first. What stands in capitals is a kind of token; all else that no line is of stands as it is.
const grammar = `
expr = ors
ors = ands
ors = ors or ands
ands = nots
ands = ands and nots
nots = comparison
nots = not nots
comparison = sum
comparison = sum compare sum
compare = ==
compare = !=
compare = <
compare = <=
compare = >
compare = >=
compare = in
sum = product
sum = sum + product
sum = sum - product
product = neg
product = product * neg
neg = plain
neg = - neg
plain = NUMBER
plain = TEXT
plain = TIME
plain = true
plain = false
plain = now
plain = attribute
plain = has ( attribute )
plain = role ( TEXT )
plain = size ( expr )
plain = [ list ]
plain = ( expr )
attribute = who . NAME
who = subject
who = resource
who = action
who = env
list = literal
list = list , literal
literal = NUMBER
literal = - NUMBER
literal = TEXT
literal = TIME
literal = true
literal = false
document = facts use WORD ; policies
facts =
facts = facts fact attribute kind bags ;
kind = truth
kind = number
kind = text
kind = time
bags =
bags = bag
policies =
policies = policies policy NAME by NAME use WORD { perhaps_for rules }
perhaps_for =
perhaps_for = for within ;
rules =
rules = rules rule
rule = permit_or_deny NAME perhaps_if says ;
permit_or_deny = permit
permit_or_deny = deny
perhaps_if =
perhaps_if = if within
says =
says = says duty TEXT
says = says advice TEXT
within = expr
`

// production is one line of the grammar.
type production struct {
	of string
	is []string
}

// model is the grammar, by what its lines are of.
type model struct {
	lines []production
	of    map[string][]int
	// empty is what may be of no tokens.
	empty map[string]bool
}

func newModel() *model {
	m := &model{of: map[string][]int{}, empty: map[string]bool{}}
	for _, line := range strings.Split(strings.TrimSpace(grammar), "\n") {
		of, is, _ := strings.Cut(line, " =")
		p := production{of, strings.Fields(is)}
		m.of[of] = append(m.of[of], len(m.lines))
		m.lines = append(m.lines, p)
		m.empty[of] = m.empty[of] || len(p.is) == 0
	}
	return m
}

// fits is whether a token may stand for what the grammar has there.
func fits(symbol string, x lex.Token) bool {
	if !lex.Formed(x) {
		return false
	}
	switch symbol {
	case "WORD":
		return x.Kind == 1
	case "NAME":
		return x.Kind == 1 && !slices.Contains(keptWords(), x.S)
	case "NUMBER":
		return x.Kind == 2
	case "TEXT":
		return x.Kind == 3
	case "TIME":
		return x.Kind == 4
	}
	return (x.Kind == 1 || x.Kind == 5) && symbol == x.S
}

// item is a production that is read so far, from some place on.
type item struct{ line, dot, from int }

// place is the items that hold behind some tokens, in the order in which they were found.
type place struct {
	list []item
	has  map[item]bool
}

func (p *place) add(i item) {
	if !p.has[i] {
		p.has[i] = true
		p.list = append(p.list, i)
	}
}

// next is what an item waits for, or "".
func (m *model) next(i item) string {
	if i.dot == len(m.lines[i.line].is) {
		return ""
	}
	return m.lines[i.line].is[i.dot]
}

// close adds to the last place's items all that follow from them.
func (m *model) close(c []*place) {
	at := len(c) - 1
	p := c[at]
	for n := 0; n < len(p.list); n++ {
		i := p.list[n]
		symbol := m.next(i)
		for _, line := range m.of[symbol] {
			p.add(item{line, 0, at})
		}
		// What is of no tokens is over before anyone asks whether it is.
		if m.empty[symbol] {
			p.add(item{i.line, i.dot + 1, i.from})
		}
		if symbol != "" {
			continue
		}
		for _, j := range c[i.from].list {
			if m.next(j) == m.lines[i.line].of {
				p.add(item{j.line, j.dot + 1, j.from})
			}
		}
	}
}

// fault is the place of the first token with which those ahead can't go on as what the grammar calls start, or -1; and what holds behind those ahead of it.
func (m *model) fault(start string, l []lex.Token) (int, []*place) {
	c := []*place{{has: map[item]bool{}}}
	for _, line := range m.of[start] {
		c[0].add(item{line, 0, 0})
	}
	m.close(c)
	for at, x := range l {
		p := &place{has: map[item]bool{}}
		for _, i := range c[at].list {
			if symbol := m.next(i); symbol != "" && len(m.of[symbol]) == 0 && fits(symbol, x) {
				p.add(item{i.line, i.dot + 1, i.from})
			}
		}
		if len(p.list) == 0 {
			return at, c
		}
		if open, bad := badBag(l[:at+1]); bad {
			return open, c
		}
		c = append(c, p)
		m.close(c)
	}
	for _, line := range m.of[start] {
		if c[len(l)].has[item{line, len(m.lines[line].is), 0}] {
			return -1, c
		}
	}
	return len(l), c
}

// badBag is whether tokens end with a bag whose values aren't a bag's, and where it begins.
func badBag(l []lex.Token) (int, bool) {
	if l[len(l)-1] != (lex.Token{Kind: 5, S: "]"}) {
		return 0, false
	}
	open := len(l) - 1
	for l[open] != (lex.Token{Kind: 5, S: "["}) {
		open--
	}
	kinds, values := map[int]bool{}, map[string]bool{}
	for i, x := range l[open+1 : len(l)-1] {
		if x.Kind == 5 {
			continue
		}
		sign := ""
		if l[open+i].S == "-" && x.N != 0 {
			sign = "-"
		}
		kinds[x.Kind] = true
		values[sign+lex.Show(x)] = true
	}
	return open, len(kinds) > 1 || len(values) > 16
}

// plainTree is the tree of a whole expression's tokens: parted at the last of the ops that bind loosest, outside of all brackets.
func plainTree(l []lex.Token) syntax.Expr {
	for _, ops := range []string{"or", "and", "not", "== != < <= > >= in", "+ -", "*"} {
		if ops == "not" {
			if l[0] == (lex.Token{Kind: 1, S: "not"}) {
				return syntax.Expr{Op: "not", Parts: []syntax.Expr{plainTree(l[1:])}}
			}
			continue
		}
		if at := lastOf(l, strings.Fields(ops)); at > 0 {
			return syntax.Expr{Op: l[at].S, Parts: []syntax.Expr{plainTree(l[:at]), plainTree(l[at+1:])}}
		}
	}
	if l[0] == (lex.Token{Kind: 5, S: "-"}) {
		return syntax.Expr{Op: "neg", Parts: []syntax.Expr{plainTree(l[1:])}}
	}
	return plainOne(l)
}

// lastOf is the place of the last of these ops outside of all brackets that stands between two, or 0.
func lastOf(l []lex.Token, ops []string) int {
	last, level := 0, 0
	for i, x := range l {
		if x.Kind != 1 && x.Kind != 5 {
			continue
		}
		switch x.S {
		case "(", "[":
			level++
		case ")", "]":
			level--
		}
		if level != 0 || i == 0 || !slices.Contains(ops, x.S) {
			continue
		}
		// A - behind another op isn't between two.
		if b := l[i-1]; b.Kind != 5 || !strings.Contains("== != <= >= + - *", b.S) {
			last = i
		}
	}
	return last
}

// plainOne is the tree of one that binds strongest.
func plainOne(l []lex.Token) syntax.Expr {
	x := l[0]
	switch {
	case x.Kind == 2 || x.Kind == 3 || x.Kind == 4:
		return syntax.Expr{Op: "value", V: api.Value{Kind: x.Kind, I: x.N, S: x.S}}
	case x.S == "true" || x.S == "false":
		return syntax.Expr{Op: "value", V: value.Truth(x.S == "true")}
	case x.S == "now":
		return syntax.Expr{Op: "now"}
	case x.S == "has":
		return syntax.Expr{Op: "has", Who: l[2].S, Name: l[4].S}
	case x.S == "role":
		return syntax.Expr{Op: "role", Name: l[2].S}
	case x.S == "size":
		return syntax.Expr{Op: "size", Parts: []syntax.Expr{plainTree(l[2 : len(l)-1])}}
	case x.S == "(":
		return plainTree(l[1 : len(l)-1])
	case x.S == "[":
		return syntax.Expr{Op: "value", V: plainBag(l[1 : len(l)-1])}
	}
	return syntax.Expr{Op: "attr", Who: x.S, Name: l[2].S}
}

// plainBag is the bag of literals with commas between: put one by one where they belong.
func plainBag(l []lex.Token) api.Value {
	v := api.Value{Kind: 5}
	less := false
	for _, x := range l {
		if x.Kind == 5 {
			less = x.S == "-"
			continue
		}
		w := plainOne([]lex.Token{x}).V
		if less {
			w.I = -w.I
		}
		at := 0
		for at < len(v.L) && (v.L[at].I < w.I || v.L[at].S < w.S) {
			at++
		}
		if at == len(v.L) || v.L[at].I != w.I || v.L[at].S != w.S {
			v.L = slices.Insert(v.L, at, w)
		}
	}
	return v
}

// plainDepth is a tree's depth.
func plainDepth(e syntax.Expr) int {
	d := 0
	for _, p := range e.Parts {
		d = max(d, plainDepth(p))
	}
	return d + 1
}

// plainExpr is P8.1 by the grammar.
func (m *model) plainExpr(l []lex.Token) (syntax.Expr, int, api.Errno) {
	if at, _ := m.fault("expr", l); at >= 0 {
		return syntax.Expr{}, at, api.ErrForm
	}
	e := plainTree(l)
	if plainDepth(e) > 12 {
		return syntax.Expr{}, 0, api.ErrDepth
	}
	return e, 0, api.OK
}

// plainDoc is what goes wrong by P8.2 and the grammar, and the trees within.
func (m *model) plainDoc(l []lex.Token) ([]syntax.Expr, int, api.Errno) {
	fault, c := m.fault("document", l)
	var within []syntax.Expr
	for at, p := range c {
		if !slices.ContainsFunc(p.list, func(i item) bool { return m.next(i) == "within" }) {
			continue
		}
		// As far as it goes: whole, if nothing goes wrong in what there is up to there.
		n, _ := m.fault("expr", l[at:])
		if n < 0 {
			n = len(l) - at
		}
		if again, _ := m.fault("expr", l[at:at+n]); again >= 0 {
			continue
		}
		e := plainTree(l[at : at+n])
		if plainDepth(e) > 12 {
			return nil, at, api.ErrDepth
		}
		within = append(within, e)
	}
	if fault >= 0 {
		return nil, fault, api.ErrForm
	}
	return within, 0, api.OK
}

// exprsOf are the trees within a document, in its order.
func exprsOf(d syntax.Doc) []syntax.Expr {
	var l []syntax.Expr
	for _, p := range d.Policies {
		if p.HasFor {
			l = append(l, p.For)
		}
		for _, r := range p.Rules {
			if r.HasIf {
				l = append(l, r.If)
			}
		}
	}
	return l
}

// showAll are trees as a text.
func showAll(l []syntax.Expr) string {
	s := ""
	for _, e := range l {
		s += show(e) + "\n"
	}
	return s
}

// grow is tokens of what the grammar has there, by chance; with no room left, those of the first line.
func (m *model) grow(r *rand.Rand, l []lex.Token, symbol string, room *int) []lex.Token {
	lines := m.of[symbol]
	if len(lines) == 0 {
		return append(l, some(r, symbol))
	}
	*room--
	line := lines[0]
	if *room > 0 {
		line = lines[r.Intn(len(lines))]
	}
	for _, s := range m.lines[line].is {
		l = m.grow(r, l, s, room)
	}
	return l
}

// some is a token for what no line is of.
func some(r *rand.Rand, symbol string) lex.Token {
	switch symbol {
	case "WORD", "NAME":
		return lex.Token{Kind: 1, S: []string{"a", "b", "first", "x_1"}[r.Intn(4)]}
	case "NUMBER":
		return lex.Token{Kind: 2, N: r.Int63() >> r.Intn(64)}
	case "TEXT":
		return lex.Token{Kind: 3, S: []string{"", "a", "not", "(", "]"}[r.Intn(5)]}
	case "TIME":
		return lex.Token{Kind: 4, N: r.Int63n(api.MaxTime + 1)}
	}
	if 'a' <= symbol[0] && symbol[0] <= 'z' {
		return lex.Token{Kind: 1, S: symbol}
	}
	return lex.Token{Kind: 5, S: symbol}
}

// any is any token, now and then one that isn't formed.
func (m *model) any(r *rand.Rand) lex.Token {
	switch r.Intn(8) {
	case 0:
		return some(r, []string{"WORD", "NUMBER", "TEXT", "TIME"}[r.Intn(4)])
	case 1:
		return strange()[r.Intn(len(strange()))]
	case 2:
		return lex.Token{Kind: 1, S: keptWords()[r.Intn(29)]}
	}
	for {
		l := m.lines[r.Intn(len(m.lines))].is
		if len(l) == 0 {
			continue
		}
		if s := l[r.Intn(len(l))]; len(m.of[s]) == 0 {
			return some(r, s)
		}
	}
}

// spoil changes tokens at a few places.
func (m *model) spoil(r *rand.Rand, l []lex.Token) []lex.Token {
	for range r.Intn(3) {
		at := r.Intn(len(l) + 1)
		switch r.Intn(5) {
		case 0:
			l = slices.Insert(l, at, m.any(r))
		case 1:
			l = l[:at]
		case 2:
			l = slices.Insert(l, r.Intn(len(l)+1), l[at:min(len(l), at+r.Intn(4))]...)
		case 3:
			l = slices.Delete(l, at, min(len(l), at+1+r.Intn(2)))
		default:
			if at < len(l) {
				l[at] = m.any(r)
			}
		}
	}
	return l
}

// P8.1: expressions by chance, whole and spoilt, by the grammar.
func TestExprModel(t *testing.T) {
	m, r := newModel(), rand.New(rand.NewSource(81))
	faults := map[api.Errno]int{}
	for range 4000 {
		room := r.Intn(90)
		l := m.grow(r, nil, "expr", &room)
		if len(l) > 60 {
			continue
		}
		l = m.spoil(r, l)
		want, place, fault := m.plainExpr(l)
		e, at, f := syntax.ParseExpr(l)
		if f != fault || at != place || show(e) != show(want) || !syntax.Same(e, want) {
			t.Fatalf("%q is %s, %d, %d, not %s, %d, %d", lex.Join(l...), show(e), at, f, show(want), place, fault)
		}
		if f == api.OK && syntax.Depth(e) != plainDepth(want) {
			t.Fatal(lex.Join(l...), syntax.Depth(e))
		}
		faults[f]++
	}
	if faults[api.OK] < 500 || faults[api.ErrForm] < 500 || faults[api.ErrDepth] < 20 {
		t.Error(faults)
	}
}

// P8.1: bags by chance, of few literals and of many.
func TestBagModel(t *testing.T) {
	m, r := newModel(), rand.New(rand.NewSource(82))
	faults := map[api.Errno]int{}
	for range 3000 {
		l := []lex.Token{{Kind: 5, S: "["}}
		few := r.Intn(2) == 0
		for i := range 1 + r.Intn(30) {
			if i > 0 {
				l = append(l, lex.Token{Kind: 5, S: ","})
			}
			if r.Intn(2) == 0 {
				l = append(l, lex.Token{Kind: 5, S: "-"})
			}
			n := r.Int63n(14)
			if !few {
				n = r.Int63n(1 << 40)
			}
			l = append(l, lex.Token{Kind: 2, N: n})
		}
		l = append(l, lex.Token{Kind: 5, S: "]"})
		if r.Intn(4) == 0 {
			l = m.spoil(r, l)
		}
		want, place, fault := m.plainExpr(l)
		e, at, f := syntax.ParseExpr(l)
		if f != fault || at != place || show(e) != show(want) {
			t.Fatalf("%q is %s, %d, %d, not %s, %d, %d", lex.Join(l...), show(e), at, f, show(want), place, fault)
		}
		faults[f]++
	}
	if faults[api.OK] < 500 || faults[api.ErrForm] < 500 {
		t.Error(faults)
	}
}

// P8.2: documents by chance, whole and spoilt, by the grammar.
func TestDocModel(t *testing.T) {
	m, r := newModel(), rand.New(rand.NewSource(83))
	faults := map[api.Errno]int{}
	for range 6000 {
		room := r.Intn(200)
		l := m.grow(r, nil, "document", &room)
		if len(l) > 120 || len(l) < 10 && r.Intn(4) > 0 {
			continue
		}
		l = m.spoil(r, l)
		want, place, fault := m.plainDoc(l)
		d, at, f := syntax.Parse(l)
		if f != fault || at != place || showAll(exprsOf(d)) != showAll(want) {
			t.Fatalf("%q is\n%s\n%d, %d, not %s, %d, %d", lex.Join(l...), showDoc(d), at, f, showAll(want), place, fault)
		}
		faults[f]++
	}
	if faults[api.OK] < 200 || faults[api.ErrForm] < 500 || faults[api.ErrDepth] < 5 {
		t.Error(faults)
	}
}

// written is a document as a text, by its fields, with its trees as they were written.
func written(d syntax.Doc, trees []string) string {
	var b strings.Builder
	for _, f := range d.Facts {
		fmt.Fprintf(&b, "fact %s.%s %s%s;", f.Who, f.Name, strings.Fields("truth number text time")[f.Kind-1], map[bool]string{true: " bag"}[f.Bag])
	}
	fmt.Fprintf(&b, "use %s;", d.Use)
	for _, p := range d.Policies {
		fmt.Fprintf(&b, "policy %s by %s use %s {", p.Name, p.By, p.Use)
		if p.HasFor {
			fmt.Fprintf(&b, "for %s;", trees[0])
			trees = trees[1:]
		}
		for _, u := range p.Rules {
			fmt.Fprintf(&b, "%s %s", map[bool]string{true: "permit", false: "deny"}[u.Permit], u.Name)
			if u.HasIf {
				fmt.Fprintf(&b, " if %s", trees[0])
				trees = trees[1:]
			}
			for _, s := range u.Advice {
				fmt.Fprintf(&b, " advice %q", s)
			}
			for _, s := range u.Duties {
				fmt.Fprintf(&b, " duty %q", s)
			}
			b.WriteString(";")
		}
		b.WriteString("}")
	}
	return b.String()
}

// P8.2: documents by chance that are written by their fields are read as they were.
func TestDocWritten(t *testing.T) {
	m, r := newModel(), rand.New(rand.NewSource(84))
	word := func() string { return string(rune('a'+r.Intn(26))) + fmt.Sprint(r.Intn(99)) }
	texts := func() (l []string) {
		for range r.Intn(3) {
			l = append(l, word())
		}
		return l
	}
	for range 1000 {
		d := syntax.Doc{Use: word()}
		var trees []string
		tree := func() syntax.Expr {
			room := r.Intn(20)
			l := m.grow(r, nil, "expr", &room)
			e, _, f := m.plainExpr(l)
			if f != api.OK {
				l = []lex.Token{{Kind: 1, S: "now"}}
				e = syntax.Expr{Op: "now"}
			}
			trees = append(trees, lex.Join(l...))
			return e
		}
		for range r.Intn(4) {
			who := strings.Fields("subject resource action env")[r.Intn(4)]
			d.Facts = append(d.Facts, syntax.Fact{Who: who, Name: word(), Kind: 1 + r.Intn(4), Bag: r.Intn(2) == 0})
		}
		for range r.Intn(4) {
			p := syntax.Policy{Name: word(), By: word(), Use: word(), HasFor: r.Intn(2) == 0}
			if p.HasFor {
				p.For = tree()
			}
			for range r.Intn(4) {
				u := syntax.Rule{Permit: r.Intn(2) == 0, Name: word(), HasIf: r.Intn(2) == 0, Duties: texts(), Advice: texts()}
				if u.HasIf {
					u.If = tree()
				}
				p.Rules = append(p.Rules, u)
			}
			d.Policies = append(d.Policies, p)
		}
		s := written(d, trees)
		l := tokens(t, s)
		got, at, f := syntax.Parse(l)
		if len(l) > api.MaxTokens {
			continue
		}
		if f != api.OK || at != 0 || showDoc(got) != showDoc(d) {
			t.Fatalf("%s is\n%s\n%d, %d", s, showDoc(got), at, f)
		}
	}
}

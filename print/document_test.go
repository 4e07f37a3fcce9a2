package print_test

import (
	"reflect"
	"slices"
	"strings"
	"testing"

	"gatepost/api"
	"gatepost/check"
	"gatepost/lex"
	"gatepost/print"
	"gatepost/syntax"
	"gatepost/value"
)

// wholeText is a document with all that one may have, as it is written.
const wholeText = `fact subject . level number ;
fact env . level time ;
fact env . tags text bag ;
fact action . done truth ;
use first ;
policy p by root use deny_overrides {
  for subject . level > 2 and has ( env . tags ) ;
  permit a if "x" in env . tags and now < env . level + 3 duty "log" duty "mail" advice "x" advice "say \"a\\b\"" ;
  deny b ;
}
policy q by ann use permit_unless_deny {
  permit a ;
  deny c if role ( "guest" ) or - ( 1 + 2 ) * 3 < 0 ;
  permit d duty "" ;
  deny e advice "y" ;
}
policy r by p use only_one {
}
`

// parsed is the document that a text is read as.
func parsed(t *testing.T, s string) syntax.Doc {
	t.Helper()
	l, _, f := lex.Lex(s)
	d, _, g := syntax.Parse(l)
	if f != api.OK || g != api.OK {
		t.Fatalf("%q: %d, %d", s, f, g)
	}
	return d
}

// whole is a document with all that one may have.
func whole(t *testing.T) syntax.Doc {
	return parsed(t, wholeText)
}

// writes is that a document has this text, and that it is read as it was.
func writes(t *testing.T, d syntax.Doc, want string) {
	t.Helper()
	s, f := print.Doc(d)
	if f != api.OK || s != want {
		t.Errorf("%d, %q, not %q", f, s, want)
		return
	}
	if again := parsed(t, s); !sameDoc(again, d) {
		t.Errorf("%q is read as %v, not %v", s, again, d)
	}
}

// sameDoc is whether two documents are the same, whatever their empty lists are.
func sameDoc(a, b syntax.Doc) bool {
	return reflect.DeepEqual(plainDoc(a), plainDoc(b))
}

// plainDoc is a document whose lists without elements are nil.
func plainDoc(d syntax.Doc) syntax.Doc {
	d.Facts, d.Policies = append([]syntax.Fact(nil), d.Facts...), append([]syntax.Policy(nil), d.Policies...)
	for i := range d.Policies {
		p := &d.Policies[i]
		p.For = plainTree(p.For)
		p.Rules = append([]syntax.Rule(nil), p.Rules...)
		for j := range p.Rules {
			u := &p.Rules[j]
			u.If = plainTree(u.If)
			u.Duties, u.Advice = append([]string(nil), u.Duties...), append([]string(nil), u.Advice...)
		}
	}
	return d
}

// plainTree is a tree whose lists without elements are nil.
func plainTree(e syntax.Expr) syntax.Expr {
	e.Parts, e.V.L = append([]syntax.Expr(nil), e.Parts...), append([]api.Value(nil), e.V.L...)
	for i, p := range e.Parts {
		e.Parts[i] = plainTree(p)
	}
	for i := range e.V.L {
		e.V.L[i].L = append([]api.Value(nil), e.V.L[i].L...)
	}
	return e
}

// fails is that a document has that error, and no text beside.
func fails(t *testing.T, d syntax.Doc, want api.Errno) {
	t.Helper()
	if s, f := print.Doc(d); f != want || s != "" {
		t.Errorf("%d, %q, not %d", f, s[:min(len(s), 300)], want)
	}
}

// changed is the whole document with one thing other.
func changed(t *testing.T, change func(d *syntax.Doc)) syntax.Doc {
	t.Helper()
	d := whole(t)
	change(&d)
	return d
}

// P10.2: documents of all parts, and with few or none.
func TestDocOrdinary(t *testing.T) {
	for _, s := range []string{
		wholeText,
		"use first ;\n",
		"fact env . a truth ;\nuse only_one ;\n",
		"fact env . a truth ;\nfact env . b number bag ;\nuse first ;\n",
		"use first ;\npolicy p by root use first {\n}\n",
		"use first ;\npolicy p by root use first {\n  for true ;\n}\n",
		"use first ;\npolicy p by root use first {\n  permit a ;\n}\n",
		"use first ;\npolicy p by root use first {\n  for true ;\n  deny a ;\n}\n",
		"use first ;\npolicy p by root use first {\n}\npolicy q by p use last {\n}\n",
	} {
		writes(t, parsed(t, s), s)
	}
	writes(t, parsed(t, `# all in one line
fact env.a truth bag;use first;policy p by root use first{for(1+2)*3==9;permit a if((now<@5))advice"y"duty"x"advice"z";deny b;}`),
		"fact env . a truth bag ;\nuse first ;\npolicy p by root use first {\n  for ( 1 + 2 ) * 3 == 9 ;\n  permit a if now < @5 duty \"x\" advice \"y\" advice \"z\" ;\n  deny b ;\n}\n")
}

// P10.2: what layer 9 would ask isn't asked: of two names that are the same, uses that are none, types, or how many rules there are.
func TestDocNotChecked(t *testing.T) {
	s := "fact env . a text ;\nfact env . a time bag ;\nuse last ;\npolicy p by p use if {\n  for 1 ;\n"
	for range 30 {
		s += "  permit a if not now + resource . b ;\n"
	}
	s += "}\npolicy p by p use policy {\n}\n"
	writes(t, parsed(t, s), s)
}

// P10.2: lines with each of their parts and without.
func TestDocLines(t *testing.T) {
	for _, who := range []string{"subject", "resource", "action", "env"} {
		for i, kind := range []string{"truth", "number", "text", "time"} {
			for _, bag := range []bool{false, true} {
				s := "fact " + who + " . a1 " + kind
				if bag {
					s += " bag"
				}
				writes(t, syntax.Doc{Use: "first", Facts: []syntax.Fact{{Who: who, Name: "a1", Kind: i + 1, Bag: bag}}}, s+" ;\nuse first ;\n")
			}
		}
	}
	for _, c := range []struct {
		rule syntax.Rule
		want string
	}{
		{syntax.Rule{Name: "a"}, "deny a"},
		{syntax.Rule{Name: "a", Permit: true}, "permit a"},
		{syntax.Rule{Name: "b", HasIf: true, If: made("now")}, "deny b if now"},
		{syntax.Rule{Name: "b", Permit: true, HasIf: true, If: made("neg", made("or", made("now"), made("now")))}, "permit b if - ( now or now )"},
		{syntax.Rule{Name: "a", Duties: []string{"x"}}, `deny a duty "x"`},
		{syntax.Rule{Name: "a", Advice: []string{"x"}}, `deny a advice "x"`},
		{syntax.Rule{Name: "a", Permit: true, Duties: []string{"y", "x"}, Advice: []string{"x", "", "x"}}, `permit a duty "y" duty "x" advice "x" advice "" advice "x"`},
		{syntax.Rule{Name: "a", HasIf: true, If: role("\"\\"), Duties: []string{`\`, `"`}, Advice: []string{`a"b`}}, `deny a if role ( "\"\\" ) duty "\\" duty "\"" advice "a\"b"`},
		{syntax.Rule{Name: "a", Duties: []string{}, Advice: []string{}, If: syntax.Expr{V: api.Value{L: []api.Value{}}, Parts: []syntax.Expr{}}}, "deny a"},
	} {
		for _, has := range []bool{false, true} {
			p := syntax.Policy{Name: "p", By: "q", Use: "r", Rules: []syntax.Rule{c.rule}}
			begin := "use u ;\npolicy p by q use r {\n"
			if has {
				p.HasFor, p.For = true, attr("has", "env", "a")
				begin += "  for has ( env . a ) ;\n"
			}
			d := syntax.Doc{Use: "u", Policies: []syntax.Policy{p}}
			writes(t, d, begin+"  "+c.want+" ;\n}\n")
			d.Policies[0].Rules = append(d.Policies[0].Rules, c.rule)
			writes(t, d, begin+"  "+c.want+" ;\n  "+c.want+" ;\n}\n")
		}
	}
	writes(t, syntax.Doc{Use: "u", Facts: []syntax.Fact{}, Policies: []syntax.Policy{{Name: "p", By: "q", Use: "r", Rules: []syntax.Rule{}}}}, "use u ;\npolicy p by q use r {\n}\n")
}

// P10.2: all names: words that aren't kept.
func TestDocNames(t *testing.T) {
	names, none := words()
	for _, set := range []func(d *syntax.Doc, name string){
		func(d *syntax.Doc, name string) { d.Facts[0].Name = name },
		func(d *syntax.Doc, name string) { d.Facts[3].Name = name },
		func(d *syntax.Doc, name string) { d.Policies[0].Name = name },
		func(d *syntax.Doc, name string) { d.Policies[2].Name = name },
		func(d *syntax.Doc, name string) { d.Policies[0].By = name },
		func(d *syntax.Doc, name string) { d.Policies[2].By = name },
		func(d *syntax.Doc, name string) { d.Policies[0].Rules[0].Name = name },
		func(d *syntax.Doc, name string) { d.Policies[0].Rules[1].Name = name },
		func(d *syntax.Doc, name string) { d.Policies[1].Rules[3].Name = name },
	} {
		with := func(name string) syntax.Doc {
			return changed(t, func(d *syntax.Doc) { set(d, name) })
		}
		mark := "marked"
		text, _ := print.Doc(with(mark))
		if strings.Count(text, mark) != 1 {
			t.Fatal(text)
		}
		for _, name := range names {
			writes(t, with(name), strings.Replace(text, mark, name, 1))
		}
		for _, name := range slices.Concat(none, keptWords()) {
			fails(t, with(name), api.ErrForm)
		}
	}
}

// P10.2: uses: any words, kept ones too.
func TestDocUses(t *testing.T) {
	names, none := words()
	for _, set := range []func(d *syntax.Doc, use string){
		func(d *syntax.Doc, use string) { d.Use = use },
		func(d *syntax.Doc, use string) { d.Policies[0].Use = use },
		func(d *syntax.Doc, use string) { d.Policies[2].Use = use },
	} {
		with := func(use string) syntax.Doc {
			return changed(t, func(d *syntax.Doc) { set(d, use) })
		}
		text, _ := print.Doc(with("marked"))
		for _, use := range slices.Concat(names, keptWords(), check.Uses()) {
			writes(t, with(use), strings.Replace(text, "marked", use, 1))
		}
		for _, use := range none {
			fails(t, with(use), api.ErrForm)
		}
	}
	fails(t, syntax.Doc{}, api.ErrForm)
	fails(t, syntax.Doc{Use: "first", Policies: []syntax.Policy{{}}}, api.ErrForm)
	fails(t, syntax.Doc{Use: "first", Policies: []syntax.Policy{{Name: "p", By: "q", Use: "r", Rules: []syntax.Rule{{}}}}}, api.ErrForm)
}

// P10.2: facts of none of the four, and of no kind.
func TestDocFacts(t *testing.T) {
	for _, at := range []int{0, 2, 3} {
		for _, bag := range []bool{false, true} {
			for _, who := range []string{"", "me", "Subject", "env ", "envs", "role", "a", "now", "level", "subject\x00"} {
				fails(t, changed(t, func(d *syntax.Doc) { d.Facts[at].Who, d.Facts[at].Bag = who, bag }), api.ErrForm)
			}
			for _, kind := range []int{0, 5, 6, -1, 10, 11, 14, 1 << 40, most, least} {
				fails(t, changed(t, func(d *syntax.Doc) { d.Facts[at].Kind, d.Facts[at].Bag = kind, bag }), api.ErrForm)
			}
		}
	}
	fails(t, syntax.Doc{Use: "first", Facts: []syntax.Fact{{}}}, api.ErrForm)
}

// P10.2: duties and advice: texts of which tokens are made.
func TestDocTexts(t *testing.T) {
	right := []string{"", " ", "~", `"`, `\`, "x y", strings.Repeat("x", 64), strings.Repeat(`"`, 64), strings.Repeat(`\`, 64), "# no comment", "}"}
	wrong := []string{"\x1f", "\x7f", "a\n", "\x00", "é", "\t", "\xff", strings.Repeat("x", 65), strings.Repeat("x", 64) + "\n"}
	for _, set := range []func(u *syntax.Rule, l []string){
		func(u *syntax.Rule, l []string) { u.Duties = l },
		func(u *syntax.Rule, l []string) { u.Advice = l },
	} {
		for _, at := range [][2]int{{0, 0}, {0, 1}, {1, 0}, {1, 3}} {
			with := func(l ...string) syntax.Doc {
				return changed(t, func(d *syntax.Doc) { set(&d.Policies[at[0]].Rules[at[1]], l) })
			}
			text, _ := print.Doc(with("marked"))
			for _, s := range right {
				shown := lex.Show(lex.Token{Kind: 3, S: s})
				writes(t, with(s), strings.Replace(text, `"marked"`, shown, 1))
			}
			for _, s := range wrong {
				fails(t, with(s), api.ErrForm)
				fails(t, with(s, "a", "b"), api.ErrForm)
				fails(t, with("a", s, "b"), api.ErrForm)
				fails(t, with("a", "b", s), api.ErrForm)
			}
		}
	}
}

// places are ways to give a document an expression, each with whether it has one.
func places() []func(d *syntax.Doc, has bool, e syntax.Expr) {
	return []func(d *syntax.Doc, has bool, e syntax.Expr){
		func(d *syntax.Doc, has bool, e syntax.Expr) { d.Policies[0].HasFor, d.Policies[0].For = has, e },
		func(d *syntax.Doc, has bool, e syntax.Expr) { d.Policies[2].HasFor, d.Policies[2].For = has, e },
		func(d *syntax.Doc, has bool, e syntax.Expr) {
			d.Policies[0].Rules[0].HasIf, d.Policies[0].Rules[0].If = has, e
		},
		func(d *syntax.Doc, has bool, e syntax.Expr) {
			d.Policies[1].Rules[3].HasIf, d.Policies[1].Rules[3].If = has, e
		},
	}
}

// P10.2: a document's expressions: such as aren't formed, and such as are there where there should be none.
func TestDocExpressions(t *testing.T) {
	one := value.Number(1)
	for i, place := range places() {
		with := func(has bool, e syntax.Expr) syntax.Doc {
			return changed(t, func(d *syntax.Doc) { place(d, has, e) })
		}
		mark := "marked"
		text, _ := print.Doc(with(true, attr("attr", "env", mark)))
		if strings.Count(text, "env . "+mark) != 1 {
			t.Fatal(i, text)
		}
		for _, l := range strengths() {
			for _, s := range l {
				e := read(t, s)
				writes(t, with(true, e), strings.Replace(text, "env . "+mark, s, 1))
				fails(t, with(false, e), api.ErrForm)
			}
		}
		for _, e := range []syntax.Expr{
			{Op: "now", Who: "env"}, {Op: "xor"}, {Op: "not"}, {Op: "value"}, {Who: "env"}, {Name: "a"}, {V: one}, {V: api.Value{I: 1}}, {V: api.Value{S: "a"}}, {V: bag(one)}, {V: api.Value{L: []api.Value{{}}}}, {Parts: []syntax.Expr{{}}},
			made("not", made("xor")), attr("attr", "env", "if"), attr("has", "me", "a"), role("\n"), literal(value.Number(-1)), literal(bag()), made("+", made("now")),
		} {
			fails(t, with(true, e), api.ErrForm)
			fails(t, with(false, e), api.ErrForm)
		}
		fails(t, with(true, syntax.Expr{}), api.ErrForm)
		for _, e := range []syntax.Expr{{}, {Parts: []syntax.Expr{}}, {V: api.Value{L: []api.Value{}}}} {
			if s, f := print.Doc(with(false, e)); f != api.OK || strings.Contains(s, mark) || !sameDoc(parsed(t, s), with(false, e)) {
				t.Error(i, f, s)
			}
		}
	}
}

// deep is a tree of so many levels, and its text.
func deep(levels int) (syntax.Expr, string) {
	e, s := made("now"), "now"
	for range levels - 1 {
		e, s = made("not", e), "not "+s
	}
	return e, s
}

// P10.2: expressions just as deep as may be, and deeper ones: the document's error, but neither Formed's nor Expr's.
func TestDocDepth(t *testing.T) {
	for i, place := range places() {
		with := func(e syntax.Expr) syntax.Doc {
			return changed(t, func(d *syntax.Doc) { place(d, true, e) })
		}
		text, _ := print.Doc(with(attr("attr", "env", "marked")))
		for levels := 1; levels < 30; levels++ {
			e, s := deep(levels)
			if !print.Formed(e) || lex.Join(print.Expr(e)...) != s {
				t.Error(i, levels)
			}
			left, right := e, e
			if levels > 2 {
				below, _ := deep(levels - 2)
				left, right = made("or", made("not", below), made("now")), made("and", made("now"), made("not", below))
				if !print.Formed(left) || !print.Formed(right) {
					t.Error(i, levels)
				}
			}
			for _, e := range []syntax.Expr{e, left, right} {
				if levels > api.MaxDepth {
					fails(t, with(e), api.ErrForm)
				} else {
					writes(t, with(e), strings.Replace(text, "env . marked", lex.Join(print.Expr(e)...), 1))
				}
			}
		}
	}
}

// filled is a document of just so many tokens, far fewer bytes than may be, in one way or another.
func filled(way, tokens int) syntax.Doc {
	d := syntax.Doc{Use: "u"}
	tokens -= 3
	if way == 0 {
		for ; tokens%6 != 0; tokens -= 7 {
			d.Facts = append(d.Facts, syntax.Fact{Who: "env", Name: "a", Kind: 4, Bag: true})
		}
		for ; tokens > 0; tokens -= 6 {
			d.Facts = append(d.Facts, syntax.Fact{Who: "env", Name: "a", Kind: 3})
		}
		return d
	}
	p := syntax.Policy{Name: "p", By: "q", Use: "u"}
	tokens -= 8
	if tokens%2 == 0 {
		p.HasFor, p.For = true, made("now")
		tokens -= 3
	}
	u := syntax.Rule{Name: "a"}
	for tokens -= 3; tokens > 0; tokens -= 2 {
		if way == 1 {
			u.Duties = append(u.Duties, "")
		} else {
			u.Advice = append(u.Advice, "")
		}
	}
	p.Rules = []syntax.Rule{u}
	d.Policies = []syntax.Policy{p}
	return d
}

// P10.2: just MaxTokens tokens, and one more.
func TestDocTokens(t *testing.T) {
	for way := range 3 {
		for _, n := range []int{598, 599, 600} {
			s, f := print.Doc(filled(way, n))
			l, _, g := lex.Lex(s)
			if f != api.OK || g != api.OK || len(l) != n || len(s) > 4000 || !sameDoc(parsed(t, s), filled(way, n)) {
				t.Error(way, n, f, g, len(l), len(s))
			}
		}
		for _, n := range []int{601, 602, 603, 700, 5000} {
			fails(t, filled(way, n), api.ErrLong)
		}
	}
	// One more of each kind.
	d := filled(0, 600)
	d.Policies = []syntax.Policy{{Name: "p", By: "q", Use: "u"}}
	fails(t, d, api.ErrLong)
	d = filled(1, 600)
	d.Facts = []syntax.Fact{{Who: "env", Name: "a", Kind: 1}}
	fails(t, d, api.ErrLong)
	d = filled(1, 599)
	d.Policies[0].Rules = append(d.Policies[0].Rules, syntax.Rule{Name: "b"})
	fails(t, d, api.ErrLong)
	d = filled(1, 597)
	d.Policies[0].Rules = append(d.Policies[0].Rules, syntax.Rule{Name: "b"})
	if s, f := print.Doc(d); f != api.OK || !sameDoc(parsed(t, s), d) {
		t.Error(f)
	}
	d = filled(1, 592)
	d.Policies = append(d.Policies, syntax.Policy{Name: "r", By: "q", Use: "u"})
	if s, f := print.Doc(d); f != api.OK || !sameDoc(parsed(t, s), d) {
		t.Error(f)
	}
	d = filled(1, 593)
	d.Policies = append(d.Policies, syntax.Policy{Name: "r", By: "q", Use: "u"})
	fails(t, d, api.ErrLong)
}

// sized is a document of just so many bytes, few tokens, some of its bytes by a mark ahead.
func sized(t *testing.T, bytes int) syntax.Doc {
	t.Helper()
	d := syntax.Doc{Use: "u", Policies: []syntax.Policy{{Name: "p", By: "q", Use: "u", Rules: []syntax.Rule{{Name: "a"}}}}}
	u := &d.Policies[0].Rules[0]
	have := len("use u ;\npolicy p by q use u {\n  deny a ;\n}\n")
	for bytes-have >= 73+8 {
		u.Duties = append(u.Duties, strings.Repeat("x", 64))
		have += len(` duty ""`) + 64
	}
	if left := bytes - have - 8; left > 64 {
		d.Use = strings.Repeat("u", 1+left-64)
		have += left - 64
	}
	left := bytes - have - 8
	u.Duties = append(u.Duties, strings.Repeat(`"`, left/2)+strings.Repeat("y", left%2))
	return d
}

// P10.2: just MaxBytes bytes, and one more.
func TestDocBytes(t *testing.T) {
	for n := 4000; n <= 4096; n++ {
		d := sized(t, n)
		s, f := print.Doc(d)
		if f != api.OK || len(s) != n || !sameDoc(parsed(t, s), d) {
			t.Error(n, f, len(s))
		}
		line := len("fact env .  text ;\n")
		more := min(64, max(1, 4096-n-line))
		d.Facts = []syntax.Fact{{Who: "env", Name: strings.Repeat("a", more), Kind: 3}}
		s, f = print.Doc(d)
		if n+line+1 > 4096 {
			fails(t, d, api.ErrLong)
		} else if f != api.OK || len(s) != n+line+more || !sameDoc(parsed(t, s), d) {
			t.Error(n, f, len(s))
		}
	}
	for n := 4097; n < 4300; n++ {
		fails(t, sized(t, n), api.ErrLong)
	}
	fails(t, sized(t, 20000), api.ErrLong)
	// Names, line feeds and blanks count as all else.
	for _, set := range []func(d *syntax.Doc){
		func(d *syntax.Doc) { d.Policies[0].Name = "pp" },
		func(d *syntax.Doc) { d.Policies[0].By = "qq" },
		func(d *syntax.Doc) { d.Policies[0].Use = "uu" },
		func(d *syntax.Doc) { d.Policies[0].Rules[0].Name = "bb" },
		func(d *syntax.Doc) { d.Policies[0].Rules[0].Permit = true },
		func(d *syntax.Doc) { d.Policies[0].Rules[0].Duties[0] += `"` },
		func(d *syntax.Doc) { d.Policies[0].HasFor, d.Policies[0].For = true, made("now") },
		func(d *syntax.Doc) {
			d.Policies[0].Rules[0].HasIf, d.Policies[0].Rules[0].If = true, literal(value.Number(1))
		},
		func(d *syntax.Doc) { d.Facts = []syntax.Fact{{Who: "env", Name: "a", Kind: 3}} },
		func(d *syntax.Doc) { d.Policies = append(d.Policies, syntax.Policy{Name: "p", By: "q", Use: "u"}) },
		func(d *syntax.Doc) { d.Policies[0].Rules = append(d.Policies[0].Rules, syntax.Rule{Name: "b"}) },
	} {
		d := sized(t, 4000)
		d.Policies[0].Rules[0].Duties[0] = d.Policies[0].Rules[0].Duties[0][:32]
		set(&d)
		s, f := print.Doc(d)
		if f != api.OK {
			t.Fatal(f)
		}
		more := 4096 - len(s)
		d.Policies[0].Rules[0].Advice = []string{strings.Repeat("x", more/2-10), strings.Repeat("x", more-more/2-10)}
		if s, f := print.Doc(d); f != api.OK || len(s) != 4096 || !sameDoc(parsed(t, s), d) {
			t.Error(f, len(s))
		}
		d.Policies[0].Rules[0].Advice[1] += "x"
		fails(t, d, api.ErrLong)
	}
}

// P10.2: what isn't formed is told ahead of what is too long, wherever it stands.
func TestDocWhichError(t *testing.T) {
	wrong := made("xor")
	for _, d := range []syntax.Doc{filled(0, 5000), filled(1, 5000), filled(2, 601), sized(t, 4097), sized(t, 20000)} {
		fails(t, d, api.ErrLong)
		for _, set := range []func(d *syntax.Doc){
			func(d *syntax.Doc) { d.Use = "" },
			func(d *syntax.Doc) { d.Facts = append(d.Facts, syntax.Fact{Who: "env", Name: "if", Kind: 1}) },
			func(d *syntax.Doc) { d.Facts = append(d.Facts, syntax.Fact{Who: "env", Name: "a"}) },
			func(d *syntax.Doc) { d.Policies = append(d.Policies, syntax.Policy{Name: "p", By: "q"}) },
			func(d *syntax.Doc) {
				d.Policies = append(d.Policies, syntax.Policy{Name: "p", By: "q", Use: "u", For: wrong})
			},
			func(d *syntax.Doc) {
				d.Policies = append(d.Policies, syntax.Policy{Name: "p", By: "q", Use: "u", HasFor: true, For: wrong})
			},
			func(d *syntax.Doc) {
				d.Policies = append(d.Policies, syntax.Policy{Name: "p", By: "q", Use: "u", Rules: []syntax.Rule{{Name: "a"}, {Name: "a", Advice: []string{"\n"}}}})
			},
			func(d *syntax.Doc) {
				e, _ := deep(13)
				d.Policies = append(d.Policies, syntax.Policy{Name: "p", By: "q", Use: "u", Rules: []syntax.Rule{{Name: "a"}, {Name: "a", HasIf: true, If: e}}})
			},
		} {
			other := plainDoc(d)
			set(&other)
			fails(t, other, api.ErrForm)
		}
	}
}

// P10.3: what may be loaded is written, if it isn't too long, and loaded again as it was.
func TestDocLoaded(t *testing.T) {
	for _, s := range []string{
		wholeText,
		"use first;",
		"fact env.a text;use first;policy p by root use first{for env.a==\"\\\"\\\\\";}",
		"# long\n" + strings.Repeat("\n", 3000) + "use only_one; policy p by root use first { permit a if (((((1 < 2))))); }",
	} {
		d, _, f := check.Load(s)
		if f != api.OK {
			t.Fatal(s, f)
		}
		text, f := print.Doc(d)
		again, _, g := check.Load(text)
		if f != api.OK || g != api.OK || !sameDoc(again, d) {
			t.Error(f, g, text)
		}
		if s, f := print.Doc(again); f != api.OK || s != text {
			t.Error(f, s)
		}
	}
}

// P10.2: a text that isn't too long may be so when it is written with blanks between its tokens.
func TestDocGrows(t *testing.T) {
	for _, c := range []struct {
		name int
		want api.Errno
	}{{26, api.OK}, {27, api.ErrLong}} {
		s := strings.Repeat("fact env."+strings.Repeat("a", c.name)+" text;", 90) + "use u;"
		if len(s) > 4000 {
			t.Fatal(len(s))
		}
		if s, f := print.Doc(parsed(t, s)); f != c.want || (s == "") != (c.want != api.OK) {
			t.Error(f, len(s))
		}
	}
}

// R5: what is asked is left as it is, and each text is by itself.
func TestDocLeft(t *testing.T) {
	d, want := whole(t), whole(t)
	s, _ := print.Doc(d)
	if !reflect.DeepEqual(d, want) || s != wholeText {
		t.Error("changed")
	}
	d.Policies[0].Rules[0].Duties[0] = "other"
	d.Facts[0].Name = "other"
	if s != wholeText {
		t.Error(s)
	}
}

package syntax_test

import (
	"fmt"
	"reflect"
	"slices"
	"strings"
	"testing"

	"gatepost/api"
	"gatepost/lex"
	"gatepost/syntax"
)

// showDoc is a document as a text, with all that it has, the ones beside where nothing should stand too.
func showDoc(d syntax.Doc) string {
	var l []string
	for _, f := range d.Facts {
		l = append(l, fmt.Sprintf("fact %s.%s %d %v", f.Who, f.Name, f.Kind, f.Bag))
	}
	l = append(l, "use "+d.Use)
	for _, p := range d.Policies {
		l = append(l, fmt.Sprintf("policy %s %s %s %v %s", p.Name, p.By, p.Use, p.HasFor, show(p.For)))
		for _, r := range p.Rules {
			l = append(l, fmt.Sprintf("rule %v %s %v %s %q %q", r.Permit, r.Name, r.HasIf, show(r.If), r.Duties, r.Advice))
		}
	}
	return strings.Join(l, "\n")
}

// readsDoc is that a text is just this document.
func readsDoc(t *testing.T, s string, want ...string) {
	t.Helper()
	d, at, f := syntax.Parse(tokens(t, s))
	if f != api.OK || at != 0 || showDoc(d) != strings.Join(want, "\n") {
		t.Errorf("%q is\n%s\n%d, %d, not\n%s", s, showDoc(d), at, f, strings.Join(want, "\n"))
	}
}

// docFailsAt is that tokens go wrong with that error at that place, and that nothing is told beside.
func docFailsAt(t *testing.T, l []lex.Token, place int, f api.Errno) {
	t.Helper()
	d, at, g := syntax.Parse(l)
	if g != f || at != place || !reflect.DeepEqual(d, syntax.Doc{}) {
		t.Errorf("%q is\n%s\n%d, %d, not the error %d at %d", lex.Join(l...), showDoc(d), at, g, f, place)
	}
}

// docFails is that a text's tokens are no document from that place on.
func docFails(t *testing.T, s string, place int) {
	t.Helper()
	docFailsAt(t, tokens(t, s), place, api.ErrForm)
}

// whole is a document with all that may be in one.
const whole = `fact subject.level number; fact env.tags text bag; use first;
policy p by root use deny_overrides { for subject.level > 2;
  permit a if has(env.tags) duty "log" advice "x" duty "mail";
  deny b; }
policy q by ann use only_one { permit c advice "y"; }
policy r by bob use first { }`

// P8.2: a document with all that may be in one.
func TestDoc(t *testing.T) {
	readsDoc(t, whole,
		"fact subject.level 2 false", "fact env.tags 3 true", "use first",
		"policy p root deny_overrides true (> (attr subject.level) 2)",
		`rule true a true (has env.tags) ["log" "mail"] ["x"]`, `rule false b false  [] []`,
		"policy q ann only_one false ", `rule true c false  [] ["y"]`,
		"policy r bob first false ")
}

// P8.2: documents without facts, without policies, and without a use.
func TestDocLeast(t *testing.T) {
	readsDoc(t, "use first;", "use first")
	readsDoc(t, "fact env.a time; use x;", "fact env.a 4 false", "use x")
	readsDoc(t, "use x; policy p by q use y { }", "use x", "policy p q y false ")
	readsDoc(t, "use x; policy p by q use y { for true; }", "use x", "policy p q y true true")
	readsDoc(t, "use x; policy p by q use y { deny z; }", "use x", "policy p q y false ", "rule false z false  [] []")
	docFails(t, "", 0)
	docFails(t, "fact env.a time;", 5+1)
	docFails(t, "policy p by q use y { }", 0)
	docFails(t, "fact env.a time; policy p by q use y { }", 6)
	docFails(t, "use first; use first;", 3)
	docFails(t, "use first; fact env.a time;", 3)
	docFails(t, "use x; policy p by q use y { } use x;", 11)
	docFails(t, "use x; policy p by q use y { } fact env.a time;", 11)
	docFails(t, "use x; policy p by q use y { };", 11)
	docFails(t, "use x;;", 3)
	docFails(t, "use x", 2)
	docFails(t, "use", 1)
	docFails(t, "use ;", 1)
	docFails(t, `use "first";`, 1)
	docFails(t, "use 1;", 1)
	docFails(t, "use x y;", 2)
	docFails(t, "x;", 0)
	docFails(t, "1", 0)
	docFails(t, "true", 0)
}

// P8.2: facts of each kind, and bags of each, of each one's attributes.
func TestFacts(t *testing.T) {
	var s, want []string
	for _, who := range []string{"subject", "resource", "action", "env"} {
		for i, kind := range []string{"truth", "number", "text", "time"} {
			s = append(s, "fact "+who+".a"+kind+" "+kind+";", "fact "+who+".a "+kind+" bag;")
			want = append(want, fmt.Sprintf("fact %s.a%s %d false", who, kind, i+1), fmt.Sprintf("fact %s.a %d true", who, i+1))
			readsDoc(t, s[len(s)-2]+"use x;", want[len(want)-2], "use x")
			readsDoc(t, s[len(s)-1]+"use x;", want[len(want)-1], "use x")
		}
	}
	readsDoc(t, strings.Join(append(s, "use x;"), ""), append(want, "use x")...)
	readsDoc(t, "fact env.a time; fact env.a time; use x;", "fact env.a 4 false", "fact env.a 4 false", "use x")
}

// P8.2: facts that aren't whole, or have what they shouldn't.
func TestFactsWrong(t *testing.T) {
	docFails(t, "fact", 1)
	docFails(t, "fact x.a time; use x;", 1)
	docFails(t, "fact env a time; use x;", 2)
	docFails(t, "fact env.1 time; use x;", 3)
	docFails(t, "fact env.a; use x;", 4)
	docFails(t, "fact env.a times; use x;", 4)
	docFails(t, `fact env.a "time"; use x;`, 4)
	docFails(t, "fact env.a bag; use x;", 4)
	docFails(t, "fact env.a bag time; use x;", 4)
	docFails(t, "fact env.a 4; use x;", 4)
	docFails(t, "fact env.a time text; use x;", 5)
	docFails(t, "fact env.a time use x;", 5)
	docFails(t, "fact env.a time bags; use x;", 5)
	docFails(t, `fact env.a time "bag"; use x;`, 5)
	docFails(t, "fact env.a time bag bag; use x;", 6)
	docFails(t, "fact env.a time bag use x;", 6)
	docFails(t, "fact env.a time; env.b time; use x;", 6)
	docFails(t, "fact env.a time, env.b time; use x;", 5)
	docFails(t, "fact has(env.a) time; use x;", 1)
	for _, w := range keptWords() {
		docFails(t, "fact env."+w+" time; use x;", 3)
		readsDoc(t, "fact env."+w+"_ time; use x;", "fact env."+w+"_ 4 false", "use x")
	}
}

// P8.2: a kept word is no name of a policy, a rule or an issuer; a use is any word.
func TestNames(t *testing.T) {
	for _, w := range keptWords() {
		docFails(t, "use x; policy "+w+" by q use y { permit z; }", 4)
		docFails(t, "use x; policy p by "+w+" use y { permit z; }", 6)
		docFails(t, "use x; policy p by q use y { permit "+w+"; }", 11)
		docFails(t, "use x; policy p by q use y { deny "+w+" if true; }", 11)
		docFails(t, "use x; policy p by q use y { permit a if env."+w+"; }", 15)
		n := w + "1"
		readsDoc(t, "use "+w+"; policy "+n+" by "+n+" use "+w+" { permit "+n+" if env."+n+"; deny "+n+"; }",
			"use "+w, "policy "+n+" "+n+" "+w+" false ", "rule true "+n+" true (attr env."+n+") [] []", "rule false "+n+" false  [] []")
	}
	for _, w := range []string{"1", `"p"`, "@1", ";", "{"} {
		docFails(t, "use x; policy "+w+" by q use y { permit z; }", 4)
		docFails(t, "use x; policy p by "+w+" use y { permit z; }", 6)
		docFails(t, "use x; policy p by q use "+w+" { permit z; }", 8)
		docFails(t, "use x; policy p by q use y { permit "+w+"; }", 11)
	}
}

// P8.2: policies that aren't whole, or have what they shouldn't.
func TestPoliciesWrong(t *testing.T) {
	docFails(t, "use x; policy p q use y { }", 5)
	docFails(t, "use x; policy p by q y { }", 7)
	docFails(t, "use x; policy p use y by q { }", 5)
	docFails(t, "use x; policy p by q use y; }", 9)
	docFails(t, "use x; policy p by q use y ( }", 9)
	docFails(t, "use x; policy p by q use y z { }", 9)
	docFails(t, "use x; policy p by q use y { ", 10)
	docFails(t, "use x; policy p by q use y { ; }", 10)
	docFails(t, "use x; policy p by q use y { policy", 10)
	docFails(t, "use x; policy p by q use y { use", 10)
	docFails(t, "use x; policy p by q use y { if true; }", 10)
	docFails(t, "use x; policy p by q use y { for; }", 11)
	docFails(t, "use x; policy p by q use y { for true }", 12)
	docFails(t, "use x; policy p by q use y { for true permit a; }", 12)
	docFails(t, "use x; policy p by q use y { for true; for true; }", 13)
	docFails(t, "use x; policy p by q use y { permit a; for true; }", 13)
	docFails(t, "use x; policy p by q use y { for true duty \"a\"; }", 12)
	docFails(t, "use x; policy p by q use y { } }", 11)
}

// P8.2: rules with and without if, with duties and advices in any order.
func TestRules(t *testing.T) {
	in := func(s string) string { return "use x; policy p by q use y { " + s + " }" }
	reads := func(s, want string) {
		t.Helper()
		readsDoc(t, in(s), "use x", "policy p q y false ", want)
	}
	reads("permit a;", "rule true a false  [] []")
	reads("deny a;", "rule false a false  [] []")
	reads("permit a if true;", "rule true a true true [] []")
	reads("deny a if 1 < 2 and now == @1;", "rule false a true (and (< 1 2) (== now @1)) [] []")
	reads(`permit a duty "";`, `rule true a false  [""] []`)
	reads(`permit a advice "";`, `rule true a false  [] [""]`)
	reads(`permit a duty "x" duty "y" duty "x";`, `rule true a false  ["x" "y" "x"] []`)
	reads(`permit a advice "x" advice "y" advice "x";`, `rule true a false  [] ["x" "y" "x"]`)
	reads(`deny a if "b" == "c" duty "if";`, `rule false a true (== "b" "c") ["if"] []`)
	reads(`deny a if role("b") advice ";" duty "d" advice "c";`, `rule false a true (role .b) ["d"] [";" "c"]`)
	for n := range 16 {
		var s, duties, advice []string
		for i := range 4 {
			text := fmt.Sprintf("%q", fmt.Sprint("t", i))
			if n>>i&1 == 0 {
				s, duties = append(s, "duty "+text), append(duties, text)
			} else {
				s, advice = append(s, "advice "+text), append(advice, text)
			}
		}
		reads("deny a if true "+strings.Join(s, " ")+";", "rule false a true true ["+strings.Join(duties, " ")+"] ["+strings.Join(advice, " ")+"]")
	}
	readsDoc(t, in("permit a; permit a; deny a;"), "use x", "policy p q y false ", "rule true a false  [] []", "rule true a false  [] []", "rule false a false  [] []")
}

// P8.2: rules that aren't whole, or have what they shouldn't.
func TestRulesWrong(t *testing.T) {
	fails := func(s string, place int) {
		t.Helper()
		docFails(t, "use x; policy p by q use y { "+s+" }", 10+place)
	}
	fails("permit", 1)
	fails("permit ;", 1)
	fails("permit a", 2)
	fails("permit a b;", 2)
	fails("permit a true;", 2)
	fails("permit a if;", 3)
	fails("permit a if duty \"x\";", 3)
	fails("permit a if if true;", 3)
	fails("permit a if true if true;", 4)
	fails("permit a if true true;", 4)
	fails("permit a if true and;", 5)
	fails("permit a duty;", 3)
	fails("permit a duty x;", 3)
	fails("permit a duty 1;", 3)
	fails("permit a duty (\"x\");", 3)
	fails(`permit a duty "x" "y";`, 4)
	fails(`permit a duty "x", "y";`, 4)
	fails(`permit a duty "x" + "y";`, 4)
	fails(`permit a duty "x" if true;`, 4)
	fails(`permit a advice "x" if true;`, 4)
	fails(`permit a advice advice "x";`, 3)
	fails(`permit a duty "x"`, 4)
	fails("permit a deny b;", 2)
	fails("permit deny a;", 1)
	fails("allow a;", 0)
	fails(`"permit" a;`, 0)
	fails("permit a;;", 3)
}

// P8.2: of an expression within, the same place as by itself; brackets and bags that are wrong are told where they are.
func TestDocExprs(t *testing.T) {
	for _, c := range []struct{ ahead, behind string }{
		{"use x; policy p by q use y { for ", "; permit a; }"},
		{"use x; policy p by q use y { permit a if ", "; }"},
		{"use x; policy p by q use y { for true; permit a; deny b if ", ` duty "d"; }`},
		{"use x; policy p by q use y { permit a if ", ` advice "d"; }`},
	} {
		n := len(tokens(t, c.ahead))
		for s, at := range map[string]int{
			"": 0, "1 ==": 2, "1 == 2 == 3": 3, "subject a": 1, "subject.if": 2, "[]": 1, "[1, true]": 0, "(1": 2, "1 2": 1, "- - not 1": 2, "role(x)": 2, "1 in [2, @1]": 2,
			"[1, true": 4, "[" + numbers(1, 17) + "]": 0, "1)": 1, "not": 1, "1 < 2 permit": 3, "((((1))))))": 9,
		} {
			docFails(t, c.ahead+s+c.behind, n+at)
		}
	}
}

// P8.2: a tree within of just MaxDepth, and one deeper: told at its beginning when it is read whole, ahead of what goes wrong behind it, and behind what goes wrong ahead of it, or within.
func TestDocDeep(t *testing.T) {
	for _, ahead := range []string{"use x; policy p by q use y { for ", "use x; policy p by q use y { permit a if ", "use x; policy p by q use y { for now; deny a; deny b if "} {
		n := len(tokens(t, ahead))
		just, deep := strings.Repeat("not ", 11)+"true", strings.Repeat("not ", 12)+"true"
		for _, s := range []string{just, "(" + just + ")", "((((((((((((((" + just + "))))))))))))))", strings.Repeat("1 + ", 11) + "1"} {
			if _, at, f := syntax.Parse(tokens(t, ahead+s+"; }")); f != api.OK || at != 0 {
				t.Error(s, at, f)
			}
			docFails(t, ahead+s+" true; }", n+len(tokens(t, s)))
		}
		for _, s := range []string{deep, "(" + deep + ")", "1 + (" + just + ")", strings.Repeat("1 + ", 12) + "1", strings.Repeat("-", 13) + "1", strings.Repeat("size(", 12) + "1" + strings.Repeat(")", 12)} {
			for _, behind := range []string{"; }", ";", "", " true", " ) ; }", " use", "; permit", `; for ` + deep} {
				docFailsAt(t, tokens(t, ahead+s+behind), n, api.ErrDepth)
			}
			docFailsAt(t, append(tokens(t, ahead+s), lex.Token{}), n, api.ErrDepth)
			docFails(t, ahead+s+" and", n+len(tokens(t, s))+1)
			docFails(t, ahead+s+" or ]", n+len(tokens(t, s))+1)
			docFails(t, ahead+s+" or [1, true]; }", n+len(tokens(t, s))+1)
			docFails(t, ahead+"("+s+"; }", n+1+len(tokens(t, s)))
			docFails(t, ahead+"1 + ("+s+" 2); }", n+3+len(tokens(t, s)))
			docFails(t, "use x x; "+strings.TrimPrefix(ahead, "use x; ")+s+"; }", 2)
		}
	}
	deep := strings.Repeat("-", 12) + "1"
	docFailsAt(t, tokens(t, "use x; policy p by q use y { for true; permit a if -"+deep+"; permit b if "+deep+"; }"), 16, api.ErrDepth)
	docFailsAt(t, tokens(t, "use x; policy p by q use y { permit a; } policy q by q use y { for "+deep+"; }"), 22, api.ErrDepth)
}

// P8.2: just MaxTokens tokens, and one more: that is told ahead of all else.
func TestDocMany(t *testing.T) {
	l := tokens(t, "use x; policy p by q use y { "+strings.Repeat("deny a; ", 194)+"deny b if not not true; }")
	if d, at, f := syntax.Parse(l); len(l) != api.MaxTokens || f != api.OK || at != 0 || len(d.Policies[0].Rules) != 195 {
		t.Error(len(l), at, f)
	}
	docFailsAt(t, append(slices.Clone(l), lex.Token{Kind: 5, S: ";"}), 0, api.ErrMany)
	docFailsAt(t, append(slices.Clone(l), lex.Token{}), 0, api.ErrMany)
	docFailsAt(t, make([]lex.Token, 601), 0, api.ErrMany)
	docFailsAt(t, make([]lex.Token, 600), 0, api.ErrForm)
	docFailsAt(t, slices.Repeat(tokens(t, "use x;"), 201), 0, api.ErrMany)
	docFailsAt(t, slices.Repeat(tokens(t, "use x;"), 200), 3, api.ErrForm)
	l[599] = lex.Token{Kind: 5, S: "{"}
	docFailsAt(t, l, 599, api.ErrForm)
	docFailsAt(t, l[:599], 599, api.ErrForm)
}

// P8.2: a token that isn't formed is one with which nothing goes on, wherever it stands.
func TestDocStrange(t *testing.T) {
	l := tokens(t, whole)
	for _, x := range strange() {
		docFailsAt(t, []lex.Token{x}, 0, api.ErrForm)
		for i := range l {
			put := slices.Clone(l)
			put[i] = x
			docFailsAt(t, put, i, api.ErrForm)
		}
		docFailsAt(t, append(slices.Clone(l), x), len(l), api.ErrForm)
		docFailsAt(t, append(tokens(t, "use x; x"), x), 3, api.ErrForm)
	}
	for i, x := range l {
		put := slices.Clone(l)
		put[i].N++
		if put[i].Kind != 2 {
			docFailsAt(t, put, i, api.ErrForm)
		}
		if x.Kind == 1 || x.Kind == 5 {
			put[i] = lex.Token{Kind: 3, S: x.S}
			place := i
			// An expression may begin with a text: it goes wrong behind it.
			if i > 0 && (l[i-1].S == "if" || l[i-1].S == "for") {
				place++
			}
			docFailsAt(t, put, place, api.ErrForm)
		}
	}
}

// P8.2: tokens that are over too early, cut at each place: whole ones are those behind the use, and behind each policy.
func TestDocCut(t *testing.T) {
	l := tokens(t, whole)
	for n := range len(l) + 1 {
		atEnd := n > 0 && (l[n-1].S == "}" || n >= 3 && l[n-3].S == "use" && l[n-1].S == ";")
		if atEnd {
			if _, at, f := syntax.Parse(l[:n]); f != api.OK || at != 0 {
				t.Error(n, at, f)
			}
			continue
		}
		docFailsAt(t, l[:n], n, api.ErrForm)
	}
}

// R5: tokens are left as they are, their spare room too; documents are new memory, and no two lists of one share it.
func TestDocLeft(t *testing.T) {
	room := tokens(t, whole+";;;")
	l := room[:len(room)-3]
	before := slices.Clone(room)
	a, _, _ := syntax.Parse(l)
	b, _, _ := syntax.Parse(l)
	want := showDoc(b)
	for i := range l {
		l[i] = lex.Token{}
	}
	for i := range a.Policies {
		p := &a.Policies[i]
		for j := range p.Rules {
			r := &p.Rules[j]
			_, _ = append(r.Duties, "x"), append(r.Advice, "y")
		}
		_ = append(p.Rules, syntax.Rule{Name: "x"})
	}
	_, _ = append(a.Facts, syntax.Fact{Name: "x"}), append(a.Policies, syntax.Policy{Name: "x"})
	if showDoc(a) != want {
		t.Error(showDoc(a))
	}
	a.Facts[0].Name = "z"
	a.Policies[0].Rules[0].Duties[0] = "z"
	a.Policies[0].Rules[0].Advice[0] = "z"
	a.Policies[0].For.Parts[0].Name = "z"
	if showDoc(b) != want {
		t.Error(showDoc(b))
	}
	copy(l, before)
	if !slices.Equal(room, before) {
		t.Error(room)
	}
}

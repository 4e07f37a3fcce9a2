package check_test

import (
	"fmt"
	"reflect"
	"slices"
	"strings"
	"testing"

	"gatepost/api"
	"gatepost/check"
	"gatepost/lex"
	"gatepost/syntax"
	"gatepost/value"
)

// whole is a document with all that one may have.
func whole() syntax.Doc {
	d, _, _ := check.Load(wholeText)
	return d
}

const wholeText = `# who may read
fact subject.level number;
fact env.level time;
fact env.tags text bag;
use first;
policy p by root use deny_overrides {
  for subject.level > 2 and has(env.tags);
  permit a if "x" in env.tags and now < env.level + 3 duty "log" advice "x";
  deny b;
}
policy q by ann use permit_unless_deny { permit a; deny c if role("guest"); }
policy r by p use only_one { }
`

// judged is that a document has just that error.
func judged(t *testing.T, d syntax.Doc, want api.Errno) {
	t.Helper()
	if f := check.Doc(d); f != want {
		t.Errorf("%d, not %d", f, want)
	}
}

// loads is that a text is a document that may be, the one that layer 8 reads.
func loads(t *testing.T, s string) {
	t.Helper()
	l, _, _ := lex.Lex(s)
	want, _, f := syntax.Parse(l)
	if f != api.OK {
		t.Fatalf("%q: %d", s, f)
	}
	d, at, f := check.Load(s)
	if f != api.OK || at != 0 || !reflect.DeepEqual(d, want) {
		t.Errorf("%q: %d, %d", s, at, f)
	}
	judged(t, d, api.OK)
}

// failsAt is that a text has that error at that place, and that nothing is told beside.
func failsAt(t *testing.T, s string, want api.Errno, place int) {
	t.Helper()
	d, at, f := check.Load(s)
	if f != want || at != place || !reflect.DeepEqual(d, syntax.Doc{}) {
		t.Errorf("%q: %d, %d, %v, not %d, %d", s[:min(len(s), 300)], at, f, d, place, want)
	}
}

// fails is that a text is a document that may not be: Load and Doc say so alike.
func fails(t *testing.T, s string, want api.Errno) {
	t.Helper()
	failsAt(t, s, want, 0)
	l, _, _ := lex.Lex(s)
	d, _, f := syntax.Parse(l)
	if f != api.OK {
		t.Fatalf("%q: %d", s, f)
	}
	judged(t, d, want)
}

// P9.2: documents that may be.
func TestDocRight(t *testing.T) {
	loads(t, wholeText)
	loads(t, "use first;")
	loads(t, "fact env.a truth; use only_one;")
	loads(t, "use first; policy p by root use first { }")
	loads(t, "use first; policy p by root use first { for true; }")
	loads(t, "use first; policy p by root use first { for now < @1; permit a if 1 == 1; deny b; }")
	loads(t, "fact env.a truth; use first; policy p by p use first { for env.a; permit p if env.a; }")
	loads(t, `fact env.a truth bag; use first; policy p by q use first { for true in env.a; permit a if has(env.a); }`)
	// What isn't asked of a document: its issuers, and whether its names are words.
	d := whole()
	d.Policies[0].By, d.Policies[1].By, d.Policies[1].Name, d.Policies[2].Name = "", "if", "", "permit"
	d.Policies[0].Rules[0].Name, d.Policies[0].Rules[1].Name = "", "A B"
	d.Policies[0].Rules[0].Duties = []string{"log", "log", "\n"}
	judged(t, d, api.OK)
	judged(t, syntax.Doc{}, api.ErrNone)
	judged(t, syntax.Doc{Use: "first"}, api.OK)
	judged(t, syntax.Doc{Use: "first", Facts: []syntax.Fact{{}, {Who: "x", Kind: 9}, {Who: "env", Name: "if", Kind: -1, Bag: true}}}, api.OK)
	judged(t, syntax.Doc{Use: "first", Policies: []syntax.Policy{{Use: "first", Rules: []syntax.Rule{{}}}}}, api.OK)
}

// P9.2: two facts of one attribute, next to each other and not, of one type and of two.
func TestDocFacts(t *testing.T) {
	fails(t, "fact env.a text; fact env.a text; use first;", api.ErrExists)
	fails(t, "fact env.a text; fact env.a number bag; use first;", api.ErrExists)
	fails(t, "fact env.a text; fact env.b text; fact subject.a text; fact env.a text; use first;", api.ErrExists)
	loads(t, "fact env.a text; fact subject.a text; fact resource.a text; fact action.a text; fact env.b text; use first;")
	loads(t, "fact env.a text; fact env.aa text; use first;")
	judged(t, syntax.Doc{Use: "first", Facts: []syntax.Fact{{Who: "env", Name: "ab"}, {Who: "enva", Name: "b"}, {Who: "enva", Name: "ab"}}}, api.OK)
	judged(t, syntax.Doc{Use: "first", Facts: []syntax.Fact{{Who: "x", Name: "y"}, {}, {Who: "x", Name: "y", Kind: 4}}}, api.ErrExists)
	for n := 2; n < 60; n += 7 {
		for at := range n - 1 {
			var l []string
			for i := range n {
				l = append(l, fmt.Sprintf("fact env.a%d number;", i))
			}
			loads(t, strings.Join(l, "")+"use first;")
			l[n-1] = l[at]
			fails(t, strings.Join(l, "")+"use first;", api.ErrExists)
		}
	}
}

// P9.2: two policies of one name, two rules of one policy, and two of two policies.
func TestDocNames(t *testing.T) {
	p := func(name, rules string) string { return "policy " + name + " by root use first {" + rules + "}" }
	fails(t, "use first;"+p("p", "")+p("p", ""), api.ErrExists)
	fails(t, "use first;"+p("p", "permit a;")+p("q", "")+p("p", "deny b;"), api.ErrExists)
	fails(t, "use first;"+p("p", "permit a; permit a;"), api.ErrExists)
	fails(t, "use first;"+p("p", "permit a; deny a;"), api.ErrExists)
	fails(t, "use first;"+p("p", "permit a; deny b; permit c if true; permit a;"), api.ErrExists)
	fails(t, "use first;"+p("p", "permit a;")+p("q", "permit a; permit b; permit b;"), api.ErrExists)
	loads(t, "use first;"+p("p", "permit a;")+p("q", "permit a;"))
	loads(t, "use first;"+p("p", "permit a; deny b;")+p("q", "deny b; permit a;")+p("r", "permit p; permit q; permit r;"))
	loads(t, "use first;"+p("p", "permit p;")+p("pp", ""))
	loads(t, "use first;"+p("root", ""))
	loads(t, "fact env.p text; use first;"+p("p", "permit env_p; permit a;")+p("a", ""))
}

// P9.2: each use, and words that are none, of the document and of each policy.
func TestDocUses(t *testing.T) {
	right := check.Uses()
	text := func(of, p, q string) string {
		return "use " + of + "; policy p by root use " + p + " { permit a; } policy q by root use " + q + " { deny a; }"
	}
	for _, a := range right {
		for _, b := range right {
			loads(t, text(a, b, "first"))
			loads(t, text("first", a, b))
			for _, w := range []string{"last", "p", "if", "use", "deny", "firsts", "firs", "first_", "deny_override", "permit", "none", "only_one_applicable"} {
				fails(t, text(w, a, b), api.ErrNone)
				fails(t, text(a, w, b), api.ErrNone)
				fails(t, text(a, b, w), api.ErrNone)
			}
		}
	}
	for _, w := range []string{"", "First", " first", "first ", "FIRST", "deny-overrides", "first\x00"} {
		d := whole()
		d.Use = w
		judged(t, d, api.ErrNone)
		for i := range d.Policies {
			d = whole()
			d.Policies[i].Use = w
			judged(t, d, api.ErrNone)
		}
	}
}

// ruled is a document whose policies have so many rules.
func ruled(many ...int) syntax.Doc {
	d := syntax.Doc{Use: "first"}
	for i, n := range many {
		p := syntax.Policy{Name: fmt.Sprint("p", i), By: "root", Use: "first"}
		for j := range n {
			p.Rules = append(p.Rules, syntax.Rule{Name: fmt.Sprint("a", j), Permit: j%2 == 0})
		}
		d.Policies = append(d.Policies, p)
	}
	return d
}

// P9.2: just as many rules as may be in all, and one more; policies are not counted.
func TestDocMany(t *testing.T) {
	ones := slices.Repeat([]int{1}, 24)
	for _, l := range [][]int{{24}, {12, 12}, {0, 23, 0, 1, 0}, {1, 2, 3, 4, 5, 9}, ones, make([]int, 100)} {
		judged(t, ruled(l...), api.OK)
		for i := range l {
			more := slices.Clone(l)
			more[i]++
			want := api.ErrMany
			if l[0] == 0 && len(l) == 100 {
				want = api.OK
			}
			judged(t, ruled(more...), want)
		}
	}
	judged(t, ruled(append(ones, 1)...), api.ErrMany)
	judged(t, ruled(append(ones, 0, 0)...), api.OK)
	judged(t, ruled(25), api.ErrMany)
	judged(t, ruled(0, 0, 100000), api.ErrMany)
	judged(t, ruled(24, 24, 24), api.ErrMany)
	text := "use first; policy p by root use first {"
	for i := range 24 {
		text += fmt.Sprintf("permit a%d;", i)
	}
	loads(t, text+"} policy q by root use first { }")
	fails(t, text+"} policy q by root use first { permit a0; }", api.ErrMany)
}

// P9.2: a For and an If of each type, and of each error.
func TestDocTruths(t *testing.T) {
	exprs := map[string]api.Errno{"env.a1": 0, "true": 0, `role("x")`: 0, "has(env.a12)": 0, "not env.a1": 0, "now in env.a14": 0,
		"env.x": api.ErrNone, "has(env.x)": api.ErrNone, "has(subject.a1)": api.ErrNone, "true and env.x": api.ErrNone, "1 + now": api.ErrType, "env.a2 < env.a4": api.ErrType, "not 1": api.ErrType}
	for _, k := range allTypes()[1:] {
		exprs[fmt.Sprint("env.a", k)] = api.ErrType
	}
	for _, s := range []string{"1", `"true"`, "now", "@1", "1 + 2", "size([1])", "[true]", "now - 1"} {
		exprs[s] = api.ErrType
	}
	const facts = "fact env.a1 truth; fact env.a2 number; fact env.a3 text; fact env.a4 time; fact env.a11 truth bag; fact env.a12 number bag; fact env.a13 text bag; fact env.a14 time bag;"
	for s, want := range exprs {
		for _, text := range []string{
			"policy p by root use first { for %; }",
			"policy p by root use first { for %; permit a; deny b if true; }",
			"policy p by root use first { permit a if %; }",
			"policy p by root use first { deny a if true; permit b; permit c if % duty \"x\"; }",
			"policy p by root use first { for true; permit a if true; } policy q by root use first { for %; }",
			"policy p by root use first { } policy q by root use first { deny a; deny b if %; deny c; }",
		} {
			text = facts + "use first;" + strings.Replace(text, "%", s, 1)
			if want == api.OK {
				loads(t, text)
			} else {
				fails(t, text, want)
			}
		}
	}
}

// P9.2: what is there and isn't had isn't asked.
func TestDocWithout(t *testing.T) {
	for _, e := range []syntax.Expr{{}, literal(value.Number(1)), attr("env", "x"), made("xor"), literal(api.Value{Kind: 9})} {
		d := whole()
		d.Policies[1].HasFor, d.Policies[1].For = false, e
		d.Policies[0].Rules[1].HasIf, d.Policies[0].Rules[1].If = false, e
		judged(t, d, api.OK)
		d.Policies[1].HasFor = true
		_, want := check.Type(d.Facts, e)
		if want == api.OK {
			want = api.ErrType
		}
		judged(t, d, want)
		d.Policies[1].HasFor = false
		d.Policies[0].Rules[1].HasIf = true
		judged(t, d, want)
	}
}

// P9.2: of a document with several errors the first one is told, and behind it the next, when it is mended.
func TestDocWhichError(t *testing.T) {
	none, form, kind := attr("env", "x"), made("xor"), made("neg", attr("env", "tags"))
	type mend struct {
		want api.Errno
		to   func(d *syntax.Doc)
	}
	exists := []mend{
		{api.ErrExists, func(d *syntax.Doc) { d.Facts = append(d.Facts, d.Facts[1]) }},
		{api.ErrExists, func(d *syntax.Doc) { d.Policies[2].Name = "p" }},
		{api.ErrExists, func(d *syntax.Doc) { d.Policies[1].Rules[1].Name = "a" }},
	}
	uses := []mend{
		{api.ErrNone, func(d *syntax.Doc) { d.Use = "last" }},
		{api.ErrNone, func(d *syntax.Doc) { d.Policies[2].Use = "last" }},
	}
	many := []mend{{api.ErrMany, func(d *syntax.Doc) {
		for i := range 21 {
			d.Policies[2].Rules = append(d.Policies[2].Rules, syntax.Rule{Name: fmt.Sprint("z", i)})
		}
	}}}
	var types [][]mend
	set := func(to func(d *syntax.Doc, e syntax.Expr)) {
		var l []mend
		for e, f := range map[*syntax.Expr]api.Errno{&none: api.ErrNone, &form: api.ErrForm, &kind: api.ErrType} {
			l = append(l, mend{f, func(d *syntax.Doc) { to(d, *e) }})
		}
		l = append(l, mend{api.ErrType, func(d *syntax.Doc) { to(d, literal(value.Number(1))) }})
		types = append(types, l)
	}
	set(func(d *syntax.Doc, e syntax.Expr) { d.Policies[0].For = e })
	set(func(d *syntax.Doc, e syntax.Expr) { d.Policies[0].Rules[0].If = e })
	set(func(d *syntax.Doc, e syntax.Expr) { d.Policies[0].Rules[1].HasIf, d.Policies[0].Rules[1].If = true, e })
	set(func(d *syntax.Doc, e syntax.Expr) { d.Policies[1].HasFor, d.Policies[1].For = true, e })
	set(func(d *syntax.Doc, e syntax.Expr) { d.Policies[1].Rules[1].If = e })
	set(func(d *syntax.Doc, e syntax.Expr) { d.Policies[2].HasFor, d.Policies[2].For = true, e })
	groups := append([][]mend{exists, uses, many}, types...)
	for i, first := range groups {
		for _, a := range first {
			d := whole()
			a.to(&d)
			judged(t, d, a.want)
			for _, later := range groups[i+1:] {
				for _, b := range later {
					d := whole()
					b.to(&d)
					a.to(&d)
					judged(t, d, a.want)
				}
			}
		}
	}
}

// P9.2: texts that aren't lexed: the error, and no place in tokens.
func TestLoadLex(t *testing.T) {
	failsAt(t, "use !", api.ErrForm, 0)
	failsAt(t, "A", api.ErrForm, 0)
	failsAt(t, "use first; use first; \"a", api.ErrForm, 0)
	failsAt(t, "use first; policy p by root use first { permit a if 1 = 1; }", api.ErrForm, 0)
	failsAt(t, "use first; # all well\n\t", api.ErrForm, 0)
	failsAt(t, "fact env.a text; fact env.a text; use last; 9x", api.ErrForm, 0)
	failsAt(t, strings.Repeat(";", 600)+"!", api.ErrForm, 0)
	failsAt(t, strings.Repeat(";", 601)+"!", api.ErrMany, 0)
	failsAt(t, "use first;"+strings.Repeat(" ", 4086)+" ", api.ErrLong, 0)
	failsAt(t, strings.Repeat("!", 4097), api.ErrLong, 0)
	loads(t, "use first;"+strings.Repeat(" ", 4086))
}

// tokenMany is facts and a use of so many tokens: right ones, if that many is a 3 and sixes, else with signs behind.
func tokenMany(n int) string {
	var b strings.Builder
	for i := 0; n >= 9; i++ {
		fmt.Fprintf(&b, "fact env.x%c%c time;", 'a'+i/26, 'a'+i%26)
		n -= 6
	}
	b.WriteString("use first;")
	return b.String() + map[int]string{3: "", 4: ";", 5: ";;", 6: ";;;", 7: ";;;;", 8: ";;;;;"}[n]
}

// P9.2: texts that aren't parsed: the error, and the place in tokens, not in bytes.
func TestLoadParse(t *testing.T) {
	failsAt(t, "", api.ErrForm, 0)
	failsAt(t, "# none\n", api.ErrForm, 0)
	failsAt(t, "use first policy", api.ErrForm, 2)
	failsAt(t, "use first", api.ErrForm, 2)
	failsAt(t, "   # three blanks\n use\n\nfirst # and\n more;", api.ErrForm, 2)
	failsAt(t, "use first; use first;", api.ErrForm, 3)
	failsAt(t, "fact env.level number bag bag; use first;", api.ErrForm, 6)
	failsAt(t, "use last; policy policy by root use first { }", api.ErrForm, 4)
	failsAt(t, "fact env.a text; fact env.a text; use last; policy p by root use first { permit a if 1 == 2 == 3; }", api.ErrForm, 28)
	failsAt(t, "use first; policy p by root use first { permit a if [1, true]; }", api.ErrForm, 13)
	failsAt(t, "use first; policy p by root use first { for "+strings.Repeat("not ", 12)+"true; }", api.ErrDepth, 11)
	failsAt(t, "use first; policy p by root use first { for true; permit aa if "+strings.Repeat("-", 12)+"1; permit permit; }", api.ErrDepth, 16)
	loads(t, "use first; policy p by root use first { for "+strings.Repeat("not ", 11)+"true; }")
	fails(t, "use first; policy p by root use first { for "+strings.Repeat("-", 11)+"1; }", api.ErrType)
	loads(t, tokenMany(597))
	failsAt(t, tokenMany(600), api.ErrForm, 597)
	failsAt(t, tokenMany(597)+";;;;", api.ErrMany, 0)
}

// R5: what is answered is new memory, and what is asked is left as it is.
func TestDocLeft(t *testing.T) {
	d, want := whole(), whole()
	check.Doc(d)
	if !reflect.DeepEqual(d, want) {
		t.Error("changed")
	}
	d.Policies[0].Rules[0].If.Parts[0].Op = "xor"
	d.Facts[2].Bag, d.Policies[1].Name = false, ""
	if !reflect.DeepEqual(whole(), want) {
		t.Error("documents hang on one another")
	}
	judged(t, want, api.OK)
	judged(t, d, api.ErrForm)
}

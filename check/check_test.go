package check_test

import (
	"fmt"
	"slices"
	"strconv"
	"strings"
	"testing"

	"gatepost/api"
	"gatepost/check"
	"gatepost/lex"
	"gatepost/syntax"
	"gatepost/value"
)

// allTypes are the chapter's.
func allTypes() []int {
	return []int{1, 2, 3, 4, 11, 12, 13, 14}
}

// someFacts have an attribute of each type: of env, a1 to a4, and a11 to a14.
func someFacts() []syntax.Fact {
	var l []syntax.Fact
	for _, k := range allTypes() {
		l = append(l, syntax.Fact{Who: "env", Name: fmt.Sprint("a", k), Kind: k % 10, Bag: k > 10})
	}
	return l
}

// parsed is a text's tree.
func parsed(t *testing.T, s string) syntax.Expr {
	t.Helper()
	l, _, f := lex.Lex(s)
	if f != api.OK {
		t.Fatalf("%q: %d", s, f)
	}
	e, at, f := syntax.ParseExpr(l)
	if f != api.OK {
		t.Fatalf("%q: %d at %d", s, f, at)
	}
	return e
}

// made is the tree of an op and its parts.
func made(op string, parts ...syntax.Expr) syntax.Expr {
	return syntax.Expr{Op: op, Parts: parts}
}

// literal is the tree of a value.
func literal(v api.Value) syntax.Expr {
	return syntax.Expr{Op: "value", V: v}
}

// attr is the tree of an attribute.
func attr(who, name string) syntax.Expr {
	return syntax.Expr{Op: "attr", Who: who, Name: name}
}

// show is a tree's text, of so many levels: it may be deeper than can be told, and hold itself.
func show(e syntax.Expr, levels int) string {
	if levels == 0 {
		return ".."
	}
	s := "(" + e.Op
	if e.Op == "value" {
		s += fmt.Sprint(" ", e.V.Kind, " ", e.V.I, " ", strconv.Quote(e.V.S), " ", len(e.V.L))
	}
	if e.Who != "" || e.Name != "" {
		s += " " + e.Who + "." + e.Name
	}
	for _, p := range e.Parts[:min(len(e.Parts), 4)] {
		s += " " + show(p, levels-1)
	}
	return s + ")"
}

// has is that a tree has just this type.
func has(t *testing.T, e syntax.Expr, want int) {
	t.Helper()
	if k, f := check.Type(someFacts(), e); k != want || f != api.OK {
		t.Errorf("%s is %d, %d, not %d", show(e, 4), k, f, want)
	}
}

// wrong is that a tree is wrong in that way, and that nothing is told beside.
func wrong(t *testing.T, e syntax.Expr, want api.Errno) {
	t.Helper()
	if k, f := check.Type(someFacts(), e); k != 0 || f != want {
		t.Errorf("%s is %d, %d, not the error %d", show(e, 4), k, f, want)
	}
}

// samples are trees of a type: of each kind of tree that has it.
func samples(t *testing.T, k int) []syntax.Expr {
	t.Helper()
	l := map[int]string{
		1:  `true|false|has(env.a11)|role("x")|role("")|1 < 2|@1 == now|not true|true and false|true or env.a1|1 in env.a12`,
		2:  `0|9223372036854775807|-1|- - 1|1 + 2|1 - 2|3 * 4|now - @1|size(env.a14)|size(["a"])|9223372036854775807 * 9`,
		3:  `""|"a"|"@1"|"env.a2"`,
		4:  `@0|now|@1099511627776|now + 1|@9 - 10`,
		11: `[true]|[false, true]`,
		12: `[0]|[-1, 1]`,
		13: `[""]|["1", "2"]`,
		14: `[@0]|[@1, @2]`,
	}[k]
	of := []syntax.Expr{parsed(t, fmt.Sprint("env.a", k))}
	for _, s := range strings.Split(l, "|") {
		of = append(of, parsed(t, s))
	}
	return of
}

// P9.1: just the chapter's uses, in its order, and in new memory.
func TestUses(t *testing.T) {
	want := strings.Fields("deny_overrides permit_overrides first only_one deny_unless_permit permit_unless_deny")
	l := check.Uses()
	if !slices.Equal(l, want) {
		t.Error(l)
	}
	clear(l[:cap(l)])
	if !slices.Equal(check.Uses(), want) {
		t.Error("uses hang on what was answered")
	}
}

// P9.1: the examples of the chapter.
func TestTypeExamples(t *testing.T) {
	wrong(t, parsed(t, "1 + now"), api.ErrType)
	has(t, parsed(t, "now + 1"), 4)
}

// P9.1: what has no parts, by itself and within brackets.
func TestTypeAlone(t *testing.T) {
	for _, k := range allTypes() {
		for _, e := range samples(t, k) {
			has(t, e, k)
		}
	}
	has(t, parsed(t, "(((now)))"), 4)
	has(t, syntax.Expr{Op: "now"}, 4)
	has(t, syntax.Expr{Op: "role"}, 1)
}

// takes is what each op takes, and what it makes of it: the op, the types of its parts, its own.
func takes(op string, parts ...int) int {
	lines := `
not 1 1
neg 2 2
size 11 2
size 12 2
size 13 2
size 14 2
and 1 1 1
or 1 1 1
+ 2 2 2
+ 4 2 4
- 2 2 2
- 4 2 4
- 4 4 2
* 2 2 2
in 1 11 1
in 2 12 1
in 3 13 1
in 4 14 1
< 2 2 1
< 3 3 1
< 4 4 1
`
	for _, other := range strings.Fields("<= > >=") {
		if op == other {
			op = "<"
		}
	}
	if op == "==" || op == "!=" {
		return map[bool]int{true: 1}[parts[0] == parts[1]]
	}
	begin := op
	for _, p := range parts {
		begin += fmt.Sprint(" ", p)
	}
	_, rest, is := strings.Cut(lines, "\n"+begin+" ")
	if !is {
		return 0
	}
	return int(rest[0] - '0')
}

// oneOps and twoOps are layer 8's, with one part and with two.
func oneOps() []string { return strings.Fields("not neg size") }
func twoOps() []string { return strings.Fields("and or + - * == != < <= > >= in") }

// P9.1: each op with parts of each type, and of each two types in each order.
func TestTypeOps(t *testing.T) {
	asked := func(e syntax.Expr, want int) {
		if want == 0 {
			wrong(t, e, api.ErrType)
		} else {
			has(t, e, want)
		}
	}
	for _, a := range allTypes() {
		for _, x := range samples(t, a) {
			for _, op := range oneOps() {
				asked(made(op, x), takes(op, a))
			}
			for _, b := range allTypes() {
				for _, y := range samples(t, b) {
					for _, op := range twoOps() {
						asked(made(op, x, y), takes(op, a, b))
					}
				}
			}
		}
	}
}

// P9.1: the same as they are written: numbers and times in each order, comparisons, in, size.
func TestTypeWritten(t *testing.T) {
	for s, want := range map[string]int{
		"1 + 1": 2, "1 - 1": 2, "1 * 1": 2, "@1 + 1": 4, "@1 - 1": 4, "@1 - @1": 2, "-1 + -1": 2,
		"now + 1 - 2": 4, "now - now + 1": 2, "now - (now - 1)": 2, "(now - now) * 3": 2, "now + 2 * 3": 4, "now + (now - @1)": 4, "now + size([1]) * -2": 4,
		`"a" < "b"`: 1, "@1 >= now": 1, "1 <= 2": 1, "true == false": 1, "[1] == [2, 3]": 1, "[@1] != [@2]": 1, "(1 < 2) == (2 < 3)": 1, "env.a11 != [true]": 1,
		"true in [true]": 1, "1 + 1 in [2]": 1, `"a" in env.a13`: 1, "now in [@1]": 1, "now in env.a14": 1, "(1 in [1]) in [false]": 1,
		"size(env.a11)": 2, "size(env.a12) + size(env.a13)": 2, "not size([1]) < 2": 1,
		`not has(env.a1) and role("x") or now < @9`: 1,
	} {
		has(t, parsed(t, s), want)
	}
	for _, s := range []string{
		"1 + @1", "1 - @1", "1 * @1", "@1 * 1", "@1 + @1", "@1 * @1", "now + now", "now - now + now", "1 + 1 + now", "2 * now", "-now", "-true", `-"a"`, "-[1]", `"a" + "b"`, "[1] + [2]", "[2] - [2]", "true + true",
		"true < false", "[1] < [2]", "[1] >= [1]", "(1 < 2) <= (2 < 3)", `1 == "1"`, "1 != @1", "now == 1", "1 == true", "[1] == 1", "[1] == [true]", `["a"] != [@1]`, "env.a12 == env.a13", "1 == [1]",
		"1 in 1", "1 in now", `1 in "1"`, `"a" in "abc"`, "1 in [true]", "1 in [@1]", "now in [1]", `1 in ["1"]`, "[1] in [1]", "[1] in 1", "env.a12 in env.a12", "1 in env.a14", "now in env.a12", "true in true",
		"size(1)", `size("abc")`, "size(now)", "size(true)", "size(size([1]))", "size(env.a3)", "size(1 in [1])",
		"not 1", "not now", `not "true"`, "not [true]", "1 and true", "true and 1", "true or now", `"a" or true`, "[true] and true",
	} {
		wrong(t, parsed(t, s), api.ErrType)
	}
}

// P9.1: attributes and has: with their fact, with none, with one of the same name and another one's, with one of another name.
func TestTypeFacts(t *testing.T) {
	whos := []string{"subject", "resource", "action", "env"}
	for i, who := range whos {
		for _, k := range allTypes() {
			facts := []syntax.Fact{{Who: who, Name: "b", Kind: 3}, {Who: who, Name: "a", Kind: k % 10, Bag: k > 10}, {Who: whos[(i+1)%4], Name: "a", Kind: 4, Bag: true}, {Who: whos[(i+2)%4], Name: "c"}}
			for _, c := range []struct {
				s    string
				kind int
				f    api.Errno
			}{
				{who + ".a", k, 0}, {who + ".b", 3, 0}, {"has(" + who + ".a)", 1, 0}, {"has(" + who + ".b)", 1, 0}, {whos[(i+1)%4] + ".a", 14, 0},
				{whos[(i+2)%4] + ".a", 0, api.ErrNone}, {whos[(i+1)%4] + ".b", 0, api.ErrNone}, {"has(" + whos[(i+2)%4] + ".a)", 0, api.ErrNone}, {"has(" + whos[(i+1)%4] + ".b)", 0, api.ErrNone},
				{who + ".c", 0, api.ErrNone}, {who + ".aa", 0, api.ErrNone}, {"has(" + who + ".c)", 0, api.ErrNone},
			} {
				if kind, f := check.Type(facts, parsed(t, c.s)); kind != c.kind || f != c.f {
					t.Error(who, k, c.s, kind, f)
				}
			}
		}
	}
	for _, s := range []string{"env.a", "has(env.a)", "subject.b"} {
		for _, none := range [][]syntax.Fact{nil, {}} {
			if k, f := check.Type(none, parsed(t, s)); k != 0 || f != api.ErrNone {
				t.Error(s, k, f)
			}
		}
	}
	// The two texts are held against each other one by one, not as one text.
	facts := []syntax.Fact{{Who: "env", Name: "ab", Kind: 1}, {Who: "enva", Name: "b", Kind: 2}}
	for i, e := range []syntax.Expr{attr("env", "ab"), attr("enva", "b")} {
		if k, f := check.Type(facts, e); k != i+1 || f != api.OK {
			t.Error(i, k, f)
		}
	}
}

// P9.1: of several facts of one attribute the first one counts.
func TestTypeFirstFact(t *testing.T) {
	for _, k := range allTypes() {
		for _, other := range allTypes() {
			facts := []syntax.Fact{{Who: "subject", Name: "a", Kind: other % 10, Bag: other > 10}, {Who: "env", Name: "a", Kind: k % 10, Bag: k > 10}, {Who: "env", Name: "a", Kind: other % 10, Bag: other > 10}, {Who: "env", Name: "a", Kind: 3}}
			if kind, f := check.Type(facts, parsed(t, "env.a")); kind != k || f != api.OK {
				t.Error(k, other, kind, f)
			}
			if kind, f := check.Type(facts, parsed(t, "has(env.a)")); kind != 1 || f != api.OK {
				t.Error(k, other, kind, f)
			}
		}
	}
	facts := []syntax.Fact{{Who: "env", Name: "a", Kind: 2}, {Who: "env", Name: "a", Kind: 4}}
	if k, f := check.Type(facts, parsed(t, "now + env.a")); k != 4 || f != api.OK {
		t.Error(k, f)
	}
	slices.Reverse(facts)
	if k, f := check.Type(facts, parsed(t, "now + env.a")); k != 0 || f != api.ErrType {
		t.Error(k, f)
	}
}

// P9.1: the part of which the error is told: the first one that has one, ahead of what is wrong with the whole.
func TestTypeWhichError(t *testing.T) {
	form, none, kind := made("xor"), attr("env", "x"), parsed(t, "1 + now")
	faults := []struct {
		e syntax.Expr
		f api.Errno
	}{{form, api.ErrForm}, {none, api.ErrNone}, {kind, api.ErrType}, {literal(api.Value{}), api.ErrForm}, {syntax.Expr{Op: "has", Who: "env", Name: "x"}, api.ErrNone}, {made("not", none), api.ErrNone}, {made("and", kind, form), api.ErrType}, {made("+", literal(value.Truth(true)), none), api.ErrNone}}
	for _, a := range faults {
		wrong(t, a.e, a.f)
		for _, op := range oneOps() {
			wrong(t, made(op, a.e), a.f)
		}
		for _, op := range twoOps() {
			for _, b := range faults {
				wrong(t, made(op, a.e, b.e), a.f)
			}
			for _, k := range allTypes() {
				for _, e := range samples(t, k) {
					wrong(t, made(op, a.e, e), a.f)
					wrong(t, made(op, e, a.e), a.f)
				}
			}
		}
	}
}

// P9.1: an op that is none of layer 8's, or without just its parts, is told ahead of its parts' errors.
func TestTypeForm(t *testing.T) {
	many := map[string]int{"value": 0, "now": 0, "attr": 0, "has": 0, "role": 0}
	for _, op := range oneOps() {
		many[op] = 1
	}
	for _, op := range twoOps() {
		many[op] = 2
	}
	ops := strings.Fields("xor = && || ! ~ / % ++ -- === <> => =< <== - + notin not_in is literal bag attribute subject env true false if permit ( [ ) ] . , 1 @1")
	ops = append(ops, "", " ", "\x00", "\xff", strings.Repeat("a", 100000))
	for op := range many {
		ops = append(ops, op, op+" ", " "+op, strings.ToUpper(op), op+op, op[:len(op)-1], op+"\x00")
	}
	parts := []syntax.Expr{attr("env", "a1"), attr("env", "x"), literal(api.Value{}), made("xor"), parsed(t, "1 + now"), parsed(t, "1")}
	for _, op := range ops {
		for n := range 5 {
			if right, is := many[op]; is && right == n {
				continue
			}
			for first := range parts {
				e := syntax.Expr{Op: op, V: value.Number(1), Who: "env", Name: "a1"}
				for i := range n {
					e.Parts = append(e.Parts, parts[(first+i)%len(parts)])
				}
				wrong(t, e, api.ErrForm)
				wrong(t, made("not", e), api.ErrForm)
			}
		}
	}
	wrong(t, syntax.Expr{}, api.ErrForm)
	wrong(t, syntax.Expr{Op: "or", Parts: make([]syntax.Expr, 100000)}, api.ErrForm)
}

// strangeValues are such as no expression has: not formed, none, bags without values.
func strangeValues() []api.Value {
	one := value.Number(1)
	long := strings.Repeat("a", 65)
	l := []api.Value{
		{}, {I: 1}, {S: "a"}, {L: []api.Value{one}}, {Kind: 6}, {Kind: -1, I: 1}, {Kind: 12, I: 1}, {Kind: 15},
		{Kind: 1, I: 2}, {Kind: 1, I: -1}, {Kind: 1, S: "true"}, {Kind: 1, L: []api.Value{one}},
		{Kind: 2, I: 1, S: "1"}, {Kind: 2, L: []api.Value{{}}},
		{Kind: 3, S: long}, {Kind: 3, S: "a", I: 1}, {Kind: 3, L: []api.Value{one}},
		{Kind: 4, I: -1}, {Kind: 4, I: api.MaxTime + 1}, {Kind: 4, S: "@1"},
		{Kind: 5}, {Kind: 5, L: []api.Value{}},
	}
	for _, b := range [][]api.Value{{{}}, {one, one}, {value.Number(2), one}, {one, value.Text("a")}, {one, value.Truth(true)}, {{Kind: 5}}, {{Kind: 5, L: []api.Value{one}}}, {{Kind: 1, I: 2}}, {{Kind: 3, S: long}}, {{Kind: 4, I: -1}}, {{Kind: 9}}, make([]api.Value, 17)} {
		l = append(l, api.Value{Kind: 5, L: b})
	}
	many := api.Value{Kind: 5}
	for i := range 17 {
		many.L = append(many.L, value.Number(int64(i)))
	}
	round := api.Value{Kind: 5, L: make([]api.Value, 1)}
	round.L[0] = round
	return append(l, many, round, api.Value{Kind: 5, I: 1, L: []api.Value{one}}, api.Value{Kind: 5, S: "a", L: []api.Value{one}})
}

// P9.1: values that no expression has, alone and as parts.
func TestTypeStrangeValues(t *testing.T) {
	for _, v := range strangeValues() {
		e := literal(v)
		wrong(t, e, api.ErrForm)
		for _, op := range oneOps() {
			wrong(t, made(op, e), api.ErrForm)
		}
		for _, op := range twoOps() {
			wrong(t, made(op, e, attr("env", "x")), api.ErrForm)
			wrong(t, made(op, parsed(t, "1"), e), api.ErrForm)
			wrong(t, made(op, attr("env", "x"), e), api.ErrNone)
		}
		// What isn't a value has none: it isn't asked.
		has(t, syntax.Expr{Op: "now", V: v}, 4)
		has(t, syntax.Expr{Op: "attr", Who: "env", Name: "a12", V: v}, 12)
	}
	full := api.Value{Kind: 5}
	for i := range 16 {
		full.L = append(full.L, value.Number(int64(i)))
	}
	has(t, literal(full), 12)
	has(t, literal(api.Value{Kind: 3, S: strings.Repeat("\xff", 64)}), 3)
	has(t, literal(value.Number(-1<<63)), 2)
	has(t, syntax.Expr{Op: "value", V: value.Number(1), Who: "env", Name: "x"}, 2)
}

// R1: facts with kinds that are none: an attribute's type is its fact's, and what is made of it ends.
func TestTypeStrangeFacts(t *testing.T) {
	for _, k := range []int{0, 5, 6, 9, 10, 11, 14, 15, 21, 100, -1, -9, -10, 1<<63 - 1, -1 << 63} {
		for _, bag := range []bool{false, true} {
			facts := append(someFacts(), syntax.Fact{Who: "env", Name: "odd", Kind: k, Bag: bag})
			want := k
			if bag {
				want += 10
			}
			odd := attr("env", "odd")
			if kind, f := check.Type(facts, odd); kind != want || f != api.OK {
				t.Error(k, bag, kind, f)
			}
			if kind, f := check.Type(facts, parsed(t, "has(env.odd)")); kind != 1 || f != api.OK {
				t.Error(k, bag, kind, f)
			}
			if slices.Contains(allTypes(), want) {
				continue
			}
			for _, op := range strings.Fields("not neg") {
				if kind, f := check.Type(facts, made(op, odd)); kind != 0 || f != api.ErrType {
					t.Error(k, bag, op, kind, f)
				}
			}
			for _, op := range twoOps() {
				for _, other := range allTypes() {
					x := attr("env", fmt.Sprint("a", other))
					for _, e := range []syntax.Expr{made(op, x, odd), made(op, odd, x)} {
						if kind, f := check.Type(facts, e); kind != 0 || f != api.ErrType {
							t.Error(k, bag, show(e, 4), kind, f)
						}
					}
				}
			}
		}
	}
}

// R5: what is asked is left as it is.
func TestTypeLeft(t *testing.T) {
	facts := append(make([]syntax.Fact, 0, 20), someFacts()...)
	e := parsed(t, "now + size(env.a12) - 1 in [@1, @2]")
	e.Parts = append(make([]syntax.Expr, 0, 5), e.Parts...)
	check.Type(facts, e)
	check.Type(facts, made("not", e))
	if !slices.Equal(facts, someFacts()) || !syntax.Same(e, parsed(t, "now + size(env.a12) - 1 in [@1, @2]")) {
		t.Error("changed")
	}
	for _, f := range facts[len(facts):cap(facts)] {
		if f != (syntax.Fact{}) {
			t.Error(f)
		}
	}
	for _, p := range e.Parts[2:5] {
		if !syntax.Same(p, syntax.Expr{}) {
			t.Error(p)
		}
	}
}

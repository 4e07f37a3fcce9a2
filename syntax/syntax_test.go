package syntax_test

import (
	"fmt"
	"reflect"
	"slices"
	"strings"
	"testing"

	"gatepost/api"
	"gatepost/lex"
	"gatepost/syntax"
	"gatepost/value"
)

// keptWords are the chapter's: those of documents, then those that it lists.
func keptWords() []string {
	return strings.Fields("fact truth number text time bag use policy by for permit deny if duty advice " +
		"true false now or and not in has role size subject resource action env")
}

// tokens are a text's.
func tokens(t *testing.T, s string) []lex.Token {
	t.Helper()
	l, at, e := lex.Lex(s)
	if e != api.OK {
		t.Fatalf("Lex(%q): %d, %d", s, at, e)
	}
	return l
}

// show is a tree as a text, with all that it has: an op with round brackets, a value without.
func show(e syntax.Expr) string {
	l := []string{e.Op}
	if e.V.Kind != 0 || e.V.I != 0 || e.V.S != "" || len(e.V.L) != 0 {
		l = append(l, showValue(e.V))
	}
	if e.Who != "" || e.Name != "" {
		l = append(l, e.Who+"."+e.Name)
	}
	for _, p := range e.Parts {
		l = append(l, show(p))
	}
	if len(l) == 2 && e.Op == "value" {
		return l[1]
	}
	if len(l) == 1 {
		return l[0]
	}
	return "(" + strings.Join(l, " ") + ")"
}

// showValue is a value's text; one that isn't formed begins with a ?.
func showValue(v api.Value) string {
	if !value.Formed(v) {
		return fmt.Sprintf("?%#v", v)
	}
	switch v.Kind {
	case 1:
		return []string{"false", "true"}[v.I]
	case 2:
		return fmt.Sprint(v.I)
	case 3:
		return fmt.Sprintf("%q", v.S)
	case 4:
		return fmt.Sprintf("@%d", v.I)
	}
	var l []string
	for _, w := range v.L {
		l = append(l, showValue(w))
	}
	return "[" + strings.Join(l, " ") + "]"
}

// reads is that a text is just this tree, by what show makes of it.
func reads(t *testing.T, s, want string) {
	t.Helper()
	e, at, f := syntax.ParseExpr(tokens(t, s))
	if f != api.OK || at != 0 || show(e) != want {
		t.Errorf("%q is %s, %d, %d, not %s", s, show(e), at, f, want)
	}
}

// failsAt is that tokens go wrong with that error at that place, and that nothing is told beside.
func failsAt(t *testing.T, l []lex.Token, place int, f api.Errno) {
	t.Helper()
	e, at, g := syntax.ParseExpr(l)
	if g != f || at != place || !reflect.DeepEqual(e, syntax.Expr{}) {
		t.Errorf("%q is %s, %d, %d, not the error %d at %d", lex.Join(l...), show(e), at, g, f, place)
	}
}

// fails is that a text's tokens are no expression from that place on.
func fails(t *testing.T, s string, place int) {
	t.Helper()
	failsAt(t, tokens(t, s), place, api.ErrForm)
}

// P8.1: each plain one, by itself.
func TestPlain(t *testing.T) {
	reads(t, "0", "0")
	reads(t, "007", "7")
	reads(t, "9223372036854775807", "9223372036854775807")
	reads(t, `""`, `""`)
	reads(t, `"a \" b"`, `"a \" b"`)
	reads(t, `"true"`, `"true"`)
	reads(t, `"("`, `"("`)
	reads(t, "@0", "@0")
	reads(t, "@1099511627776", "@1099511627776")
	reads(t, "true", "true")
	reads(t, "false", "false")
	reads(t, "now", "now")
	for _, who := range []string{"subject", "resource", "action", "env"} {
		reads(t, who+".a", "(attr "+who+".a)")
		reads(t, who+" . level_9", "(attr "+who+".level_9)")
		reads(t, "has("+who+".a)", "(has "+who+".a)")
	}
	reads(t, `role("admin")`, "(role .admin)")
	reads(t, `role("")`, "role")
	reads(t, "size(subject.a)", "(size (attr subject.a))")
	reads(t, "size(1 or 2)", "(size (or 1 2))")
	reads(t, "size(size([1]))", "(size (size [1]))")
	reads(t, "(1)", "1")
	reads(t, "(((1)))", "1")
	reads(t, "(now)", "now")
}

// P8.1: what begins no expression, and a plain one that isn't what it began as.
func TestPlainWrong(t *testing.T) {
	fails(t, "", 0)
	for _, w := range keptWords() {
		switch w {
		case "true", "false", "now":
		case "subject", "resource", "action", "env", "has", "role", "size", "not":
			fails(t, w, 1)
			fails(t, "("+w+")", 2)
			fails(t, "1 + ("+w, 4)
		default:
			fails(t, w, 0)
			fails(t, "("+w+")", 1)
			fails(t, "not "+w, 1)
		}
	}
	for _, s := range strings.Fields("a trues subjects nows { } ) ] ; . , + * == != <= >= < >") {
		fails(t, s, 0)
		fails(t, s+" 1", 0)
		fails(t, "("+s+"1)", 1)
		fails(t, "- "+s, 1)
		fails(t, "1 * "+s, 2)
	}
	fails(t, "(", 1)
	fails(t, "()", 1)
	fails(t, "(1", 2)
	fails(t, "((1)", 4)
	fails(t, "(1))", 3)
	fails(t, "(1]", 2)
	fails(t, "(1, 2)", 2)
}

// P8.1: an attribute without its point, its word, or with a kept one.
func TestAttributes(t *testing.T) {
	for _, who := range []string{"subject", "resource", "action", "env"} {
		fails(t, who+" a", 1)
		fails(t, who, 1)
		fails(t, who+".", 2)
		fails(t, who+".1", 2)
		fails(t, who+`."a"`, 2)
		fails(t, who+".@1", 2)
		fails(t, who+"..a", 2)
		fails(t, who+".a.b", 3)
		fails(t, who+"+a", 1)
		fails(t, "has("+who+")", 3)
		fails(t, "has("+who+".)", 4)
		for _, w := range keptWords() {
			fails(t, who+"."+w, 2)
			fails(t, "1 + has("+who+"."+w+")", 6)
			reads(t, who+"."+w+"s", "(attr "+who+"."+w+"s)")
		}
	}
	fails(t, "a.b", 0)
	fails(t, `"subject".a`, 1)
}

// P8.1: has, role and size without a bracket, or with what they don't take.
func TestCalls(t *testing.T) {
	for op, within := range map[string]string{"has": "env.a", "role": `"x"`, "size": "env.a"} {
		n := len(tokens(t, within))
		fails(t, op, 1)
		fails(t, op+" "+within, 1)
		fails(t, op+"(", 2)
		fails(t, op+"()", 2)
		fails(t, op+")", 1)
		fails(t, op+"("+within, 2+n)
		fails(t, op+"("+within+"]", 2+n)
		fails(t, op+"("+within+"))", 3+n)
		fails(t, op+"("+within+") "+within, 3+n)
		fails(t, op+"["+within+"]", 1)
		fails(t, op+"("+within+", "+within+")", 2+n)
	}
	fails(t, "has(1)", 2)
	fails(t, `has("env")`, 2)
	fails(t, "has(has(env.a))", 2)
	fails(t, "has((env.a))", 2)
	fails(t, "has(env.a + 1)", 5)
	fails(t, "role(x)", 2)
	fails(t, "role(1)", 2)
	fails(t, "role(env.a)", 2)
	fails(t, `role(("x"))`, 2)
	fails(t, `role("x" + "y")`, 3)
	fails(t, "size(1 2)", 3)
}

// binding is how strong an op between two binds.
func binding(op string) int {
	switch op {
	case "or":
		return 0
	case "and":
		return 1
	case "+", "-":
		return 4
	case "*":
		return 5
	}
	return 3
}

// between are all ops that stand between two.
func between() []string {
	return strings.Fields("or and == != < <= > >= in + - *")
}

// P8.1: each op that stands between two beside each other one: the stronger one is a part of the other; where they bind alike, the left one is.
func TestBindings(t *testing.T) {
	for _, a := range between() {
		reads(t, "1 "+a+" 2", "("+a+" 1 2)")
		fails(t, "1 "+a, 2)
		fails(t, a+" 1 2", map[bool]int{false: 0, true: 2}[a == "-"])
		for _, b := range between() {
			s := "1 " + a + " 2 " + b + " 3"
			reads(t, "(1 "+a+" 2) "+b+" 3", "("+b+" ("+a+" 1 2) 3)")
			reads(t, "1 "+a+" (2 "+b+" 3)", "("+a+" 1 ("+b+" 2 3))")
			switch {
			case binding(a) == 3 && binding(b) == 3:
				fails(t, s, 3)
				fails(t, "not "+s, 4)
				fails(t, "(1 + "+s+")", 6)
			case binding(a) >= binding(b):
				reads(t, s, "("+b+" ("+a+" 1 2) 3)")
			default:
				reads(t, s, "("+a+" 1 ("+b+" 2 3))")
			}
		}
	}
}

// P8.1: not and - ahead of each op, and behind it.
func TestAhead(t *testing.T) {
	for _, op := range between() {
		if binding(op) <= 1 {
			reads(t, "not 1 "+op+" 2", "("+op+" (not 1) 2)")
			reads(t, "1 "+op+" not 2", "("+op+" 1 (not 2))")
			reads(t, "not not 1 "+op+" not 2", "("+op+" (not (not 1)) (not 2))")
		} else {
			reads(t, "not 1 "+op+" 2", "(not ("+op+" 1 2))")
			reads(t, "not not 1 "+op+" 2", "(not (not ("+op+" 1 2)))")
			reads(t, "not (1) "+op+" 2", "(not ("+op+" 1 2))")
			fails(t, "1 "+op+" not 2", 2)
		}
		reads(t, "(not 1) "+op+" 2", "("+op+" (not 1) 2)")
		reads(t, "1 "+op+" (not 2)", "("+op+" 1 (not 2))")
		reads(t, "- 1 "+op+" 2", "("+op+" (neg 1) 2)")
		reads(t, "1 "+op+" - 2", "("+op+" 1 (neg 2))")
		reads(t, "1 "+op+" - - 2", "("+op+" 1 (neg (neg 2)))")
		reads(t, "-(1 "+op+" 2)", "(neg ("+op+" 1 2))")
	}
	reads(t, "-1", "(neg 1)")
	reads(t, "- - 1", "(neg (neg 1))")
	reads(t, "-0", "(neg 0)")
	reads(t, "-9223372036854775807", "(neg 9223372036854775807)")
	reads(t, `-"a"`, `(neg "a")`)
	reads(t, "-[-1]", "(neg [-1])")
	reads(t, "-1 * -2 * -3", "(* (* (neg 1) (neg 2)) (neg 3))")
	reads(t, "not -1", "(not (neg 1))")
	fails(t, "- not 1", 1)
	fails(t, "- - not 1", 2)
	fails(t, "not", 1)
	fails(t, "not not", 2)
	fails(t, "1 not", 1)
	fails(t, "1 not in 2", 1)
	fails(t, "1 + + 2", 2)
	fails(t, "1 and and 2", 2)
	fails(t, "1 -", 2)
}

// P8.1: rows of one op and of several, with the left ones first.
func TestRows(t *testing.T) {
	reads(t, "1 or 2 or 3 or 4", "(or (or (or 1 2) 3) 4)")
	reads(t, "1 - 2 + 3 - 4", "(- (+ (- 1 2) 3) 4)")
	reads(t, "1 and 2 or 3 and 4 or 5", "(or (or (and 1 2) (and 3 4)) 5)")
	reads(t, "1 + 2 * 3", "(+ 1 (* 2 3))")
	reads(t, "1 * 2 - 3 * 4 * 5 < 6 and not 7 in [7]", "(and (< (- (* 1 2) (* (* 3 4) 5)) 6) (not (in 7 [7])))")
	reads(t, "1 < 2 and 3 < 4 or 5 == 6", "(or (and (< 1 2) (< 3 4)) (== 5 6))")
	reads(t, "1 < (2 < 3)", "(< 1 (< 2 3))")
	reads(t, "not (not (1 or 2) and 3)", "(not (and (not (or 1 2)) 3))")
	reads(t, "((1 + 2)) * (3)", "(* (+ 1 2) 3)")
}

// P8.1: bags of each kind of literal: rising, each once.
func TestBags(t *testing.T) {
	reads(t, "[1]", "[1]")
	reads(t, "[-1]", "[-1]")
	reads(t, "[-0]", "[0]")
	reads(t, "[3, -2, 1, 3, -2]", "[-2 1 3]")
	reads(t, "[-9223372036854775807, 9223372036854775807]", "[-9223372036854775807 9223372036854775807]")
	reads(t, `["b", "", "a", "b"]`, `["" "a" "b"]`)
	reads(t, "[@2, @0, @2]", "[@0 @2]")
	reads(t, "[true]", "[true]")
	reads(t, "[true, false, true]", "[false true]")
	reads(t, "([1])", "[1]")
	reads(t, "[1] == [1]", "(== [1] [1])")
	reads(t, "1 in [1, 2] and 2 in [2]", "(and (in 1 [1 2]) (in 2 [2]))")
}

// P8.1: what is no bag's list of literals.
func TestBagsWrong(t *testing.T) {
	fails(t, "[", 1)
	fails(t, "[]", 1)
	fails(t, "[,]", 1)
	fails(t, "[,1]", 1)
	fails(t, "[1", 2)
	fails(t, "[1,", 3)
	fails(t, "[1,]", 3)
	fails(t, "[1,,2]", 3)
	fails(t, "[1 2]", 2)
	fails(t, "[1)", 2)
	fails(t, "[1; 2]", 2)
	fails(t, "[1]]", 3)
	fails(t, "[1] [1]", 3)
	fails(t, "[-]", 2)
	fails(t, "[- - 1]", 2)
	fails(t, `[-"a"]`, 2)
	fails(t, "[-@1]", 2)
	fails(t, "[-true]", 2)
	fails(t, "[1, -]", 4)
	fails(t, "[1 + 2]", 2)
	fails(t, "[1 - 2]", 2)
	fails(t, "[(1)]", 1)
	fails(t, "[[1]]", 1)
	fails(t, "[now]", 1)
	fails(t, "[not true]", 1)
	fails(t, "[env.a]", 1)
	fails(t, "[a]", 1)
	fails(t, "[+1]", 1)
}

// P8.1: values of several kinds are told at the bag's opening bracket, when it is read whole.
func TestBagsMixed(t *testing.T) {
	ones := []string{"1", "-1", `"a"`, "@1", "true", "false"}
	kinds := []int{2, 2, 3, 4, 1, 1}
	for i, a := range ones {
		for j, b := range ones {
			if kinds[i] == kinds[j] {
				continue
			}
			fails(t, "["+a+", "+b+"]", 0)
			fails(t, "1 in ["+a+", "+a+", "+b+"]", 2)
			fails(t, "([1] == ["+a+", "+b+"]", 5)
			fails(t, "["+a+", "+b+"] 1 ;", 0)
			n := len(tokens(t, a+" "+b))
			fails(t, "["+a+", "+b, 2+n)
			fails(t, "["+a+", "+b+",]", 3+n)
			fails(t, "["+a+", "+b+" }]", 2+n)
		}
	}
	fails(t, "[1, true] + [2, true]", 0)
	fails(t, "[1, 2] + [2, true]", 6)
}

// numbers are n numbers from first on, with commas between.
func numbers(first, n int) string {
	var l []string
	for i := range n {
		l = append(l, fmt.Sprint(first+i))
	}
	return strings.Join(l, ", ")
}

// P8.1: as many values as a bag may have, and one more: the same one counts once.
func TestBagsMany(t *testing.T) {
	full := "[" + strings.ReplaceAll(numbers(1, 16), ",", "") + "]"
	reads(t, "["+numbers(1, 16)+"]", full)
	reads(t, "["+numbers(1, 16)+", 16, 1, 7]", full)
	reads(t, "["+numbers(1, 16)+", "+numbers(1, 16)+"]", full)
	fails(t, "["+numbers(1, 17)+"]", 0)
	fails(t, "["+numbers(1, 16)+", -1]", 0)
	fails(t, "1 in (["+numbers(1, 17)+"])", 3)
	fails(t, "["+numbers(1, 17), 34)
	fails(t, "["+numbers(1, 17)+", ]", 35)
}

// P8.1: tokens behind a whole expression, the first of them.
func TestBehind(t *testing.T) {
	for _, s := range []string{"1", `"a"`, "@1", "true", "now", "env.a", "has(env.a)", `role("x")`, "size(1)", "[1]", "(1)", "-1", "not 1", "1 or 2", "1 and 2", "1 < 2", "1 in 2", "1 + 2", "1 * 2"} {
		n := len(tokens(t, s))
		for _, b := range strings.Fields(`1 "a" @1 a now not true if env { } ( ) [ ] ; . ,`) {
			fails(t, s+" "+b, n)
			fails(t, s+" "+b+" 1 ;", n)
		}
	}
}

// strange are tokens that aren't formed, of each kind and of none.
func strange() []lex.Token {
	return []lex.Token{
		{}, {Kind: 6}, {Kind: -1, S: "true"}, {S: "true"}, {N: 1},
		{Kind: 1}, {Kind: 1, S: "True"}, {Kind: 1, S: "true", N: 1}, {Kind: 1, S: "("}, {Kind: 1, S: strings.Repeat("a", 65)}, {Kind: 1, S: "not "}, {Kind: 1, S: "now", N: -1}, {Kind: 1, S: "or", N: 1}, {Kind: 1, S: "+"},
		{Kind: 2, N: -1}, {Kind: 2, N: -1 << 63}, {Kind: 2, S: "1", N: 1},
		{Kind: 3, S: "a", N: 1}, {Kind: 3, S: "\n"}, {Kind: 3, S: "é"}, {Kind: 3, S: strings.Repeat("a", 65)},
		{Kind: 4, N: -1}, {Kind: 4, N: api.MaxTime + 1}, {Kind: 4, S: "@1", N: 1},
		{Kind: 5}, {Kind: 5, S: "="}, {Kind: 5, S: "(", N: 1}, {Kind: 5, S: "++"}, {Kind: 5, S: "now"}, {Kind: 5, S: "true"}, {Kind: 5, S: "not"}, {Kind: 5, S: "- "}, {Kind: 5, S: "+", N: 1},
	}
}

// P8.1: a token that isn't formed is one with which nothing goes on, wherever it stands; one behind what goes wrong isn't asked.
func TestStrange(t *testing.T) {
	l := tokens(t, `not (env.a + -1 * size([1, -2, 3])) == 2 or has(env.b) and role("x")`)
	if _, _, f := syntax.ParseExpr(l); f != api.OK {
		t.Fatal(f)
	}
	for _, x := range strange() {
		failsAt(t, []lex.Token{x}, 0, api.ErrForm)
		for i := range l {
			put := slices.Clone(l)
			put[i] = x
			failsAt(t, put, i, api.ErrForm)
		}
		for i := range len(l) + 1 {
			failsAt(t, slices.Insert(slices.Clone(l), i, x), i, api.ErrForm)
			failsAt(t, append(slices.Clone(l[:i]), x), i, api.ErrForm)
		}
		failsAt(t, append(tokens(t, "1 1"), x), 1, api.ErrForm)
		failsAt(t, append(tokens(t, "[1, true]"), x), 0, api.ErrForm)
		failsAt(t, append(tokens(t, "[1, true"), x), 4, api.ErrForm)
	}
}

// P8.1: texts never stand for words or signs, nor words for signs.
func TestTextsAlone(t *testing.T) {
	l := tokens(t, `(1 in [2]) and not size(env.a) - 3 == now`)
	for i, x := range l {
		if x.Kind != 1 && x.Kind != 5 {
			continue
		}
		put := slices.Clone(l)
		put[i].Kind = 3
		_, _, f := syntax.ParseExpr(put)
		if (f == api.OK) != (i == len(l)-1) {
			t.Errorf("%q: %d", lex.Join(put...), f)
		}
	}
}

// P8.1: tokens that are over too early, cut at each place.
func TestCut(t *testing.T) {
	l := tokens(t, `not(env.a+-1*size([1,-2]))==2 or has(env.b)and role("x")`)
	whole := map[int]bool{}
	for _, s := range []string{"not(env.a+-1*size([1,-2]))", "not(env.a+-1*size([1,-2]))==2", "not(env.a+-1*size([1,-2]))==2 or has(env.b)", lex.Join(l...)} {
		whole[len(tokens(t, s))] = true
	}
	for n := range len(l) + 1 {
		if whole[n] {
			if _, at, f := syntax.ParseExpr(l[:n]); f != api.OK || at != 0 {
				t.Error(n, at, f)
			}
			continue
		}
		failsAt(t, l[:n], n, api.ErrForm)
	}
}

// P8.1: just MaxTokens tokens, and one more: that is told ahead of all else.
func TestManyTokens(t *testing.T) {
	open, shut := strings.Repeat("(", 299), strings.Repeat(")", 299)
	reads(t, open+"-1"+shut, "(neg 1)")
	failsAt(t, append(tokens(t, open+"-"+"1"+shut), lex.Token{Kind: 5, S: ";"}), 0, api.ErrMany)
	fails(t, "-1"+strings.Repeat(";", 598), 2)
	fails(t, strings.Repeat("(", 600), 600)
	fails(t, strings.Repeat("not ", 600), 600)
	fails(t, strings.Repeat("-", 600), 600)
	failsAt(t, slices.Repeat([]lex.Token{{Kind: 5, S: "-"}}, 601), 0, api.ErrMany)
	failsAt(t, make([]lex.Token, 601), 0, api.ErrMany)
	failsAt(t, make([]lex.Token, 600), 0, api.ErrForm)
	failsAt(t, make([]lex.Token, 100000), 0, api.ErrMany)
	failsAt(t, append(tokens(t, strings.Repeat("1 + ", 299)+"1 ;"), lex.Token{}), 0, api.ErrMany)
	failsAt(t, tokens(t, strings.Repeat("1 + ", 299)+"1"), 0, api.ErrDepth)
}

// P8.1: a tree of just MaxDepth, and one deeper; brackets are no level of it. What isn't read whole isn't asked.
func TestDeep(t *testing.T) {
	for _, c := range []struct{ ahead, behind string }{
		{"not ", ""}, {"- ", ""}, {"1 + ", ""}, {"", " + 1"}, {"", " * 2"}, {"1 or (", ")"}, {"size(", ")"}, {"(", ") == 1"}, {"((not ", "))"}, {"(2 in (", "))"},
	} {
		for _, plain := range []string{"1", "now", "[1, 2]", "env.a", "has(env.a)", `role("x")`, "((1))"} {
			deep := func(n int) string { return strings.Repeat(c.ahead, n) + plain + strings.Repeat(c.behind, n) }
			for n := range 12 {
				e, _, f := syntax.ParseExpr(tokens(t, deep(n)))
				if f != api.OK || syntax.Depth(e) != n+1 {
					t.Error(deep(n), syntax.Depth(e), f)
				}
			}
			for _, n := range []int{12, 13, 30} {
				failsAt(t, tokens(t, deep(n)), 0, api.ErrDepth)
				failsAt(t, tokens(t, "1 + ("+deep(n)+")"), 0, api.ErrDepth)
				fails(t, deep(n)+" ;", len(tokens(t, deep(n))))
				fails(t, deep(n)+" ("+deep(n), len(tokens(t, deep(n))))
			}
		}
	}
	reads(t, strings.Repeat("(", 200)+"1"+strings.Repeat(")", 200), "1")
}

// R5: tokens are left as they are, their spare room too; trees are new memory.
func TestExprLeft(t *testing.T) {
	room := tokens(t, `["a", "b"] == env.b or role("x") ; ; ;`)
	l := room[:len(room)-3]
	before := slices.Clone(room)
	a, _, _ := syntax.ParseExpr(l)
	b, _, _ := syntax.ParseExpr(l)
	want := show(b)
	a.Parts[0].Parts[0].V.L[0] = value.Number(1)
	a.Parts[0].Parts[1].Name = "c"
	a.Parts[0] = syntax.Expr{}
	l[1].S = "z"
	if show(b) != want {
		t.Error(show(b))
	}
	l[1].S = "a"
	if !slices.Equal(room, before) {
		t.Error(room)
	}
}

// R5: no two lists of one tree share their room.
func TestExprLists(t *testing.T) {
	e, _, _ := syntax.ParseExpr(tokens(t, "[1] == [1] or - 1 + 2"))
	want := show(e)
	var grow func(e *syntax.Expr)
	grow = func(e *syntax.Expr) {
		_ = append(e.V.L, value.Text("x"))
		_ = append(e.Parts, syntax.Expr{Op: "x"})
		for i := range e.Parts {
			grow(&e.Parts[i])
		}
	}
	grow(&e)
	if show(e) != want {
		t.Error(show(e))
	}
}

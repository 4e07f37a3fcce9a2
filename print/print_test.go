package print_test

import (
	"fmt"
	"reflect"
	"slices"
	"strings"
	"testing"

	"gatepost/api"
	"gatepost/lex"
	"gatepost/print"
	"gatepost/syntax"
	"gatepost/value"
)

// made is the tree of an op and its parts.
func made(op string, parts ...syntax.Expr) syntax.Expr {
	return syntax.Expr{Op: op, Parts: parts}
}

// literal is the tree of a value.
func literal(v api.Value) syntax.Expr {
	return syntax.Expr{Op: "value", V: v}
}

// attr is the tree of attr, or has.
func attr(op, who, name string) syntax.Expr {
	return syntax.Expr{Op: op, Who: who, Name: name}
}

// role is the tree of a role.
func role(name string) syntax.Expr {
	return syntax.Expr{Op: "role", Name: name}
}

// when is a time.
func when(n int64) api.Value {
	return api.Value{Kind: 4, I: n}
}

// bag is a bag of values that are taken as they are.
func bag(l ...api.Value) api.Value {
	return api.Value{Kind: 5, L: l}
}

// read is the tree that a text is read as.
func read(t *testing.T, s string) syntax.Expr {
	t.Helper()
	l, _, f := lex.Lex(s)
	e, _, g := syntax.ParseExpr(l)
	if f != api.OK || g != api.OK {
		t.Fatalf("%q: %d, %d", s, f, g)
	}
	return e
}

// prints is that a tree is formed, that these are its tokens, and that they are read as it was.
func prints(t *testing.T, e syntax.Expr, want string) {
	t.Helper()
	l := print.Expr(e)
	if !print.Formed(e) || lex.Join(l...) != want {
		t.Errorf("%q, not %q; formed: %v", lex.Join(l...), want, print.Formed(e))
		return
	}
	if again, _, f := lex.Lex(want); f != api.OK || !slices.Equal(again, l) {
		t.Errorf("%q is lexed as %v, not %v: %d", want, again, l, f)
	}
	if again, _, f := syntax.ParseExpr(l); f != api.OK || !syntax.Same(again, e) {
		t.Errorf("%q is read as %v, not %v: %d", want, again, e, f)
	}
}

// unformed is that a tree isn't formed, by itself and as a part, and that it has no tokens.
func unformed(t *testing.T, e syntax.Expr) {
	t.Helper()
	one := literal(value.Number(1))
	for _, e := range []syntax.Expr{e, made("not", e), made("size", e), made("neg", made("neg", e)), made("+", e, one), made("==", one, e), made("or", made("and", one, e), one), made("*", e, e)} {
		if print.Formed(e) || len(print.Expr(e)) != 0 {
			t.Errorf("%v is formed, as %q", e, lex.Join(print.Expr(e)...))
		}
	}
}

// P10.1: expressions that were read are written with a blank between two tokens, and with no more brackets than are needed.
func TestExprOrdinary(t *testing.T) {
	for s, want := range map[string]string{
		"(1+2)*3":         "( 1 + 2 ) * 3",
		"1+2*3":           "1 + 2 * 3",
		"1+(2*3)":         "1 + 2 * 3",
		"(1+2)+3":         "1 + 2 + 3",
		"1+(2+3)":         "1 + ( 2 + 3 )",
		"1-(2-3)-(4)":     "1 - ( 2 - 3 ) - 4",
		"((((1))))":       "1",
		"not (not (1))":   "not not 1",
		"-(-(1))":         "- - 1",
		"- 1 * 2":         "- 1 * 2",
		"-(1 * 2)":        "- ( 1 * 2 )",
		"1 * -(2)":        "1 * - 2",
		"1 - -(2)":        "1 - - 2",
		"(not 1) and 2":   "not 1 and 2",
		"not (1 and 2)":   "not ( 1 and 2 )",
		"not (1 == 2)":    "not 1 == 2",
		"(not 1) == 2":    "( not 1 ) == 2",
		"1 == (not 2)":    "1 == ( not 2 )",
		"(1 < 2) == true": "( 1 < 2 ) == true",
		"1 or (2 or 3)":   "1 or ( 2 or 3 )",
		"(1 or 2) or 3":   "1 or 2 or 3",
		"1 or (2 and 3)":  "1 or 2 and 3",
		"(1 or 2) and 3":  "( 1 or 2 ) and 3",
		"size((1 or 2))":  "size ( 1 or 2 )",
		"-size([1])":      "- size ( [ 1 ] )",
		"(1 in [1]) or (now - @1 >= 3 and has(env.a))":    "1 in [ 1 ] or now - @1 >= 3 and has ( env . a )",
		"not(role(\"x\")or subject.level*2>resource.a_1)": "not ( role ( \"x\" ) or subject . level * 2 > resource . a_1 )",
		"007 + @007 + [007, -0, -007]":                    "7 + @7 + [ - 7 , 0 , 7 ]",
	} {
		prints(t, read(t, s), want)
	}
}

// P10.1: each op that has no parts.
func TestExprPlain(t *testing.T) {
	prints(t, made("now"), "now")
	prints(t, literal(value.Truth(true)), "true")
	prints(t, literal(value.Truth(false)), "false")
	prints(t, literal(value.Number(0)), "0")
	prints(t, literal(value.Text("a b")), `"a b"`)
	prints(t, literal(when(9)), "@9")
	prints(t, literal(bag(value.Truth(false), value.Truth(true))), "[ false , true ]")
	prints(t, literal(bag(value.Truth(true))), "[ true ]")
	prints(t, literal(bag(value.Number(-2), value.Number(0), value.Number(7))), "[ - 2 , 0 , 7 ]")
	prints(t, literal(bag(value.Text(""), value.Text(`"`), value.Text("a"))), `[ "" , "\"" , "a" ]`)
	prints(t, literal(bag(when(0), when(1<<40))), "[ @0 , @1099511627776 ]")
	for _, who := range []string{"subject", "resource", "action", "env"} {
		prints(t, attr("attr", who, "a"), who+" . a")
		prints(t, attr("has", who, "a"), "has ( "+who+" . a )")
	}
	prints(t, role("x y"), `role ( "x y" )`)
	prints(t, role(""), `role ( "" )`)
}

// strengths are expressions by how strongly they bind: each op of layer 8 is there.
func strengths() [][]string {
	return [][]string{
		{"1 or 2"},
		{"1 and 2"},
		{"not 1"},
		{"1 == 2", "1 != 2", "1 < 2", "1 <= 2", "1 > 2", "1 >= 2", "1 in 2"},
		{"1 + 2", "1 - 2"},
		{"1 * 2"},
		{"- 1"},
		{"1", `"a"`, "@1", "true", "[ 1 ]", "now", "env . a", "has ( env . a )", `role ( "a" )`, "size ( 1 )"},
	}
}

// needs is how strongly the parts of ops have to bind, by the chapter.
func needs() map[string][]int {
	return map[string][]int{
		"or": {0, 1}, "and": {1, 2}, "not": {2},
		"==": {4, 4}, "!=": {4, 4}, "<": {4, 4}, "<=": {4, 4}, ">": {4, 4}, ">=": {4, 4}, "in": {4, 4},
		"+": {4, 5}, "-": {4, 5}, "*": {5, 6}, "neg": {6}, "size": {0},
	}
}

// P10.1 and P10.3: each op with parts of each strength, left and right: brackets where they bind less than they have to, and nowhere else.
func TestBrackets(t *testing.T) {
	within := func(s string, strength, least int) string {
		if strength < least {
			return "( " + s + " )"
		}
		return s
	}
	count := 0
	for op, least := range needs() {
		for i, lefts := range strengths() {
			for _, left := range lefts {
				a, inner := read(t, left), within(left, i, least[0])
				switch {
				case op == "not":
					prints(t, made(op, a), "not "+inner)
				case op == "neg":
					prints(t, made(op, a), "- "+inner)
				case op == "size":
					prints(t, made(op, a), "size ( "+inner+" )")
				}
				for j, rights := range strengths() {
					for _, right := range rights {
						count++
						if len(least) == 2 {
							prints(t, made(op, a, read(t, right)), inner+" "+op+" "+within(right, j, least[1]))
						}
					}
				}
			}
		}
	}
	if count != 15*24*24 {
		t.Error(count)
	}
}

// P10.1: what is written anew is the same tokens.
func TestExprAgain(t *testing.T) {
	for _, l := range strengths() {
		for _, s := range l {
			e := read(t, s)
			again, _, f := syntax.ParseExpr(print.Expr(e))
			if f != api.OK || !slices.Equal(print.Expr(again), print.Expr(e)) {
				t.Error(s)
			}
		}
	}
}

// keptWords are the words that no name is.
func keptWords() []string {
	return strings.Fields("fact truth number text time bag use policy by for permit deny if duty advice true false now or and not in has role size subject resource action env")
}

// words are such as may be names, and no names: at the edges of what is a word.
func words() (names, none []string) {
	long := strings.Repeat("a", 64)
	names = []string{"a", "z", "a1", "a_", "x_9", "root", "first", "value", "attr", "neg", "iff", "i", "subjects", "rule", "kind", long, "q" + strings.Repeat("_9", 31) + "0"}
	none = []string{"", " ", "A", "aB", "1", "1a", "_", "_a", "a b", " a", "a ", "a-b", "a.b", "é", "aé", "a\x00", "a\n", "\"a\"", "{", ";", "==", "@1", "#", long + "a", long + long}
	return names, none
}

// P10.1: whose attributes are, and their names.
func TestFormedAttributes(t *testing.T) {
	names, none := words()
	for _, op := range []string{"attr", "has"} {
		for _, who := range []string{"subject", "resource", "action", "env"} {
			for _, name := range names {
				want := who + " . " + name
				if op == "has" {
					want = "has ( " + want + " )"
				}
				prints(t, attr(op, who, name), want)
			}
			for _, name := range slices.Concat(none, keptWords()) {
				unformed(t, attr(op, who, name))
			}
		}
		for _, who := range slices.Concat(names, none, []string{"Subject", "subject ", " env", "envs", "en", "actions", "resources", "me", "role", "now", "fact", "ENV", "subject\x00"}) {
			unformed(t, attr(op, who, "a"))
		}
	}
}

// P10.1: the texts of roles, and of values, of which tokens are made: each byte, few and many.
func TestFormedTexts(t *testing.T) {
	all := func(t *testing.T, s string, formed bool) {
		t.Helper()
		shown := `"` + strings.NewReplacer(`"`, `\"`, `\`, `\\`).Replace(s) + `"`
		for _, c := range []struct {
			e    syntax.Expr
			want string
		}{
			{literal(api.Value{Kind: 3, S: s}), shown},
			{literal(bag(api.Value{Kind: 3, S: s})), "[ " + shown + " ]"},
			{role(s), "role ( " + shown + " )"},
		} {
			if formed {
				prints(t, c.e, c.want)
			} else {
				unformed(t, c.e)
			}
		}
	}
	for b := range 256 {
		s := string([]byte{byte(b)})
		plain := 32 <= b && b <= 126
		for _, n := range []int{1, 2, 63, 64} {
			all(t, strings.Repeat(s, n), plain)
			all(t, strings.Repeat("x", n-1)+s, plain)
		}
		all(t, strings.Repeat(s, 65), false)
		all(t, strings.Repeat("x", 64)+s, false)
	}
	for _, s := range []string{"", `\"`, `"\`, `\\\`, "# no comment", "é", "a\nb", "\u00a0"} {
		all(t, s, !strings.ContainsAny(s, "é\n\u00a0"))
	}
	all(t, strings.Repeat("x", 100000), false)
}

const (
	most  = 1<<63 - 1
	least = -1 << 63
)

// P10.1: numbers alone, from 0 on, and in bags, from -2^63 + 1 on.
func TestFormedNumbers(t *testing.T) {
	for _, n := range []int64{0, 1, 9, 10, 1 << 40, most - 1, most} {
		prints(t, literal(value.Number(n)), fmt.Sprint(n))
		prints(t, literal(bag(value.Number(n))), fmt.Sprintf("[ %d ]", n))
		if n > 0 {
			unformed(t, literal(value.Number(-n)))
			prints(t, literal(bag(value.Number(-n))), fmt.Sprintf("[ - %d ]", n))
			prints(t, literal(bag(value.Number(-n), value.Number(n))), fmt.Sprintf("[ - %d , %d ]", n, n))
			prints(t, made("neg", literal(value.Number(n))), fmt.Sprintf("- %d", n))
		}
	}
	unformed(t, literal(value.Number(least)))
	unformed(t, literal(bag(value.Number(least))))
	unformed(t, literal(bag(value.Number(least), value.Number(least+1))))
	unformed(t, literal(bag(value.Number(least), value.Number(0), value.Number(1))))
	prints(t, literal(bag(value.Number(least+1), value.Number(least+2), value.Number(most))), "[ - 9223372036854775807 , - 9223372036854775806 , 9223372036854775807 ]")
}

// P10.1: times from 0 to the last one, alone and in bags.
func TestFormedTimes(t *testing.T) {
	for _, n := range []int64{0, 1, 1<<40 - 1, 1 << 40} {
		prints(t, literal(when(n)), fmt.Sprint("@", n))
		prints(t, literal(bag(when(n))), fmt.Sprintf("[ @%d ]", n))
	}
	for _, n := range []int64{-1, 1<<40 + 1, most, least} {
		unformed(t, literal(when(n)))
		unformed(t, literal(bag(when(n))))
	}
	unformed(t, literal(bag(when(-1), when(0))))
	unformed(t, literal(bag(when(0), when(1<<40+1))))
}

// numbers are so many numbers, rising.
func numbers(n int) []api.Value {
	var l []api.Value
	for i := range n {
		l = append(l, value.Number(int64(i)))
	}
	return l
}

// P10.1: bags of as many values as may be, and such as are none.
func TestFormedBags(t *testing.T) {
	one, two := value.Number(1), value.Number(2)
	for n := 1; n <= 16; n++ {
		var l []string
		for i := range n {
			l = append(l, fmt.Sprint(i))
		}
		prints(t, literal(bag(numbers(n)...)), "[ "+strings.Join(l, " , ")+" ]")
	}
	for _, v := range []api.Value{
		bag(), bag([]api.Value{}...), {Kind: 5, L: []api.Value{}}, bag(numbers(17)...), bag(numbers(1000)...),
		bag(two, one), bag(one, one), bag(one, two, two), bag(one, value.Text("a")), bag(value.Truth(true), one), bag(when(1), one), bag(one, when(2)),
		bag(api.Value{}), bag(api.Value{}, one), bag(one, api.Value{}), bag(bag(one)), bag(bag()), bag(one, bag(one)),
		bag(api.Value{Kind: 1, I: 2}), bag(api.Value{Kind: 6}), bag(api.Value{Kind: -1}), bag(api.Value{Kind: 2, S: "1"}), bag(api.Value{Kind: 3, I: 1}), bag(api.Value{Kind: 2, L: []api.Value{one}}),
		{Kind: 5, I: 1, L: []api.Value{one}}, {Kind: 5, S: "a", L: []api.Value{one}},
	} {
		unformed(t, literal(v))
	}
	round := bag(one)
	round.L[0] = round
	unformed(t, literal(round))
}

// P10.1: values that are none, and such as have what their kind doesn't.
func TestFormedValues(t *testing.T) {
	one := value.Number(1)
	for _, v := range []api.Value{
		{}, {I: 1}, {S: "a"}, {L: []api.Value{one}}, {L: []api.Value{}},
		{Kind: 1, I: 2}, {Kind: 1, I: -1}, {Kind: 1, S: "a"}, {Kind: 1, L: []api.Value{one}},
		{Kind: 2, S: "a"}, {Kind: 2, I: 1, S: "1"}, {Kind: 2, L: []api.Value{{}}},
		{Kind: 3, S: "a", I: 1}, {Kind: 3, L: []api.Value{one}},
		{Kind: 4, S: "a"}, {Kind: 4, L: []api.Value{one}},
		{Kind: 6}, {Kind: 6, I: 1}, {Kind: -1}, {Kind: 7, S: "a"}, {Kind: 10, I: 1}, {Kind: 12, I: 1}, {Kind: 1 << 40}, {Kind: least, I: 1},
	} {
		unformed(t, literal(v))
	}
	empty := []api.Value{}
	prints(t, literal(api.Value{Kind: 1, I: 1, L: empty}), "true")
	prints(t, literal(api.Value{Kind: 3, S: "a", L: empty}), `"a"`)
	prints(t, literal(bag(api.Value{Kind: 4, L: empty})), "[ @0 ]")
}

// right is a tree of each op.
func right(t *testing.T) map[string]syntax.Expr {
	l := map[string]syntax.Expr{}
	for _, of := range strengths() {
		for _, s := range of {
			e := read(t, s)
			l[e.Op] = e
		}
	}
	if len(l) != 20 {
		t.Fatal(len(l))
	}
	return l
}

// P10.1: each op with a field set that it doesn't have.
func TestFormedFields(t *testing.T) {
	one := value.Number(1)
	for op, e := range right(t) {
		if !print.Formed(e) {
			t.Error(op)
		}
		with := func(set func(e *syntax.Expr)) syntax.Expr {
			other := e
			set(&other)
			return other
		}
		if op != "value" {
			for _, v := range []api.Value{one, value.Truth(false), value.Text(""), bag(one), bag(), {I: 1}, {S: "a"}, {L: []api.Value{one}}, {L: []api.Value{{}}}, {Kind: 9}, {Kind: -1}} {
				unformed(t, with(func(e *syntax.Expr) { e.V = v }))
			}
			if !print.Formed(with(func(e *syntax.Expr) { e.V.L = []api.Value{} })) {
				t.Error(op, "an empty list")
			}
		}
		if op != "attr" && op != "has" {
			for _, who := range []string{"env", "subject", "a", " ", "now", op} {
				unformed(t, with(func(e *syntax.Expr) { e.Who = who }))
			}
			if op != "role" {
				for _, name := range []string{"a", "env", " ", op, "true"} {
					unformed(t, with(func(e *syntax.Expr) { e.Name = name }))
				}
			}
		}
		for _, other := range []string{"", " ", op + " ", " " + op, op + op, strings.ToUpper(op) + "X", "x" + op, op[:len(op)-1] + "\x00"} {
			unformed(t, with(func(e *syntax.Expr) { e.Op = other }))
		}
	}
}

// P10.1: each op, and such as are none, with all numbers of parts.
func TestFormedParts(t *testing.T) {
	one := literal(value.Number(1))
	for op, e := range right(t) {
		want := len(e.Parts)
		for _, n := range []int{0, 1, 2, 3, 4, 17, 1000} {
			e.Parts = slices.Repeat([]syntax.Expr{one}, n)
			if n != want {
				unformed(t, e)
			} else if !print.Formed(e) {
				t.Error(op, n)
			}
		}
		e.Parts = []syntax.Expr{}
		if print.Formed(e) != (want == 0) {
			t.Error(op, "an empty list")
		}
	}
	for _, op := range []string{"", "xor", "nand", "if", "bag", "literal", "number", "text", "true", "false", "1", "=", "=>", "<>", "===", "!", "&&", "/", "%", "(", ")", "[", ".", "Not", "AND", "minus", "subject", "env", "sub", "is", "not ", "-1", "neg1", "\x00"} {
		for n := range 4 {
			unformed(t, made(op, slices.Repeat([]syntax.Expr{one}, n)...))
			unformed(t, syntax.Expr{Op: op, V: value.Number(1), Parts: slices.Repeat([]syntax.Expr{one}, n)})
			unformed(t, syntax.Expr{Op: op, Who: "env", Name: "a", Parts: slices.Repeat([]syntax.Expr{one}, n)})
		}
	}
	unformed(t, syntax.Expr{})
}

// copied is a tree in memory of its own, with spare room that is told apart.
func copied(e syntax.Expr) syntax.Expr {
	l := make([]syntax.Expr, 0, len(e.Parts)+1)
	for _, p := range e.Parts {
		l = append(l, copied(p))
	}
	l[:cap(l)][len(l)] = syntax.Expr{Op: "spare"}
	v := append(slices.Clone(e.V.L), api.Value{Kind: 77})
	e.Parts, e.V.L = l, v[:len(v)-1]
	return e
}

// rooms is a tree with all that is in its spare room.
func rooms(e syntax.Expr) any {
	l := []any{e.Op, e.Who, e.Name, e.V.Kind, e.V.I, e.V.S, e.V.L[:len(e.V.L):cap(e.V.L)], e.V.L[:cap(e.V.L)][len(e.V.L)].Kind, len(e.Parts), cap(e.Parts), e.Parts[:cap(e.Parts)][len(e.Parts)].Op}
	for _, p := range e.Parts {
		l = append(l, rooms(p))
	}
	return l
}

// R5: what is asked is left as it is, its spare room too, and each answer is new memory.
func TestExprLeft(t *testing.T) {
	for _, s := range []string{`not (1 + 2 * - 3 in [1, 2]) or has(env.a) and role("x")`, `["a", "b"] == subject.a`} {
		e, same := copied(read(t, s)), copied(read(t, s))
		l := print.Expr(e)
		want := slices.Clone(l)
		if !print.Formed(e) || !reflect.DeepEqual(rooms(e), rooms(same)) {
			t.Error(s)
		}
		again := print.Expr(e)
		for i := range l {
			l[i] = lex.Token{Kind: 9}
		}
		if !slices.Equal(again, want) || !slices.Equal(print.Expr(e), want) || !reflect.DeepEqual(rooms(e), rooms(same)) {
			t.Error(s)
		}
	}
}

package lex_test

import (
	"math"
	"slices"
	"strings"
	"testing"

	"gatepost/lex"
)

// formed is tokens of all kinds, at their edges, with their texts.
func formed() map[lex.Token]string {
	l := map[lex.Token]string{
		number(0):               "0",
		number(7):               "7",
		number(10):              "10",
		number(1<<40 + 1):       "1099511627777",
		number(math.MaxInt64):   "9223372036854775807",
		at(0):                   "@0",
		at(7):                   "@7",
		at(1<<40 - 1):           "@1099511627775",
		at(1 << 40):             "@1099511627776",
		text(""):                `""`,
		text(" "):               `" "`,
		text(`"`):               `"\""`,
		text(`\`):               `"\\"`,
		text(`\"`):              `"\\\""`,
		text(`a"b\c`):           `"a\"b\\c"`,
		text("\\n"):             `"\\n"`,
		text("# no comment; A"): `"# no comment; A"`,
	}
	for _, s := range allSigns() {
		l[sign(s)] = s
	}
	long := "a" + strings.Repeat("z09_", 16)
	for _, s := range []string{"a", "z", "a_", "q0123456789_", "if", "policy", "abcdefghijklmnopqrstuvwxyz", long[:63], long[:64]} {
		l[word(s)] = s
	}
	for _, n := range []int{1, 63, 64} {
		l[text(strings.Repeat("~", n))] = `"` + strings.Repeat("~", n) + `"`
		l[text(strings.Repeat(`"`, n))] = `"` + strings.Repeat(`\"`, n) + `"`
		l[text(strings.Repeat(`\`, n))] = `"` + strings.Repeat(`\\`, n) + `"`
	}
	return l
}

// unformed is tokens that aren't: with something else beside, of no kind, too long, too great, below 0, of other bytes.
func unformed() []lex.Token {
	var l []lex.Token
	for t := range formed() {
		switch t.Kind {
		case 2, 4:
			l = append(l, lex.Token{Kind: t.Kind, S: "a", N: t.N}, lex.Token{Kind: t.Kind, S: "7", N: t.N}, lex.Token{Kind: t.Kind, S: "\x00", N: t.N})
		default:
			l = append(l, lex.Token{Kind: t.Kind, S: t.S, N: 1}, lex.Token{Kind: t.Kind, S: t.S, N: -1}, lex.Token{Kind: t.Kind, S: t.S, N: math.MinInt64})
		}
		for _, kind := range []int{0, 6, 7, -1, -5, 1<<32 + t.Kind, math.MinInt, math.MaxInt} {
			l = append(l, lex.Token{Kind: kind, S: t.S, N: t.N})
		}
	}
	for _, n := range []int64{-1, -7, math.MinInt64} {
		l = append(l, number(n), at(n))
	}
	l = append(l, at(1<<40+1), at(math.MaxInt64), lex.Token{}, lex.Token{Kind: 1, N: 1}, lex.Token{Kind: 5, N: 1})
	for _, s := range []string{"", "A", "aB", "_", "_a", "1", "1a", "a ", " a", "a-b", "a.b", "a\n", "a\x00", "é", "aé", "`", "{", "a{", "a`", "a:", "a/", "@", "a@", "\"a\"", ";", strings.Repeat("a", 65), strings.Repeat("a", 1<<20)} {
		l = append(l, word(s))
	}
	for _, s := range []string{"\x1f", "\x7f", "\n", "\t", "\x00", "é", "\x80", "\xff", "a\x1fb", "a\x7f", "a\n", strings.Repeat("a", 65), strings.Repeat(`"`, 65), strings.Repeat(" ", 1<<20)} {
		l = append(l, text(s))
	}
	for _, s := range append(strings.Split("=!&|/:?%#@\"\\'~^$`a1A_ \n\x00é", ""), "", "===", "!==", "<==", ">>", "<<", "<>", "=<", "=>", "&&", "||", "< ", " <", "< =", "{}", "[]", "--", "<\n", strings.Repeat("<", 1<<20)) {
		l = append(l, sign(s))
	}
	return l
}

// P7.2: what is a token, and its text.
func TestFormed(t *testing.T) {
	for k, want := range formed() {
		if !lex.Formed(k) {
			t.Errorf("%v isn't formed", k)
		}
		if got := lex.Show(k); got != want {
			t.Errorf("%v is shown as %q, not %q", k, got, want)
		}
	}
}

// P7.2: what is none has no text.
func TestUnformed(t *testing.T) {
	for _, k := range unformed() {
		if lex.Formed(k) {
			t.Errorf("%d, %.80q, %d is formed", k.Kind, k.S, k.N)
		}
		if got := lex.Show(k); got != "" {
			t.Errorf("%d, %.80q, %d is shown as %.80q", k.Kind, k.S, k.N, got)
		}
	}
}

// P7.2: each byte as a word, as a word's second one, as a text, and as a sign.
func TestFormedBytes(t *testing.T) {
	for _, c := range bytes256() {
		letter := "a" <= c && c <= "z"
		inner := letter || "0" <= c && c <= "9" || c == "_"
		for _, k := range []struct {
			token lex.Token
			want  bool
		}{
			{word(c), letter},
			{word("a" + c), inner},
			{word("a" + c + "b"), inner},
			{text(c), " " <= c && c <= "~"},
			{text("a" + c + "b"), " " <= c && c <= "~"},
			{sign(c), slices.Contains(allSigns(), c)},
			{sign("=" + c), c == "="},
			{sign("<" + c), c == "="},
			{sign(c + "="), strings.Contains("=!<>", c)},
		} {
			if lex.Formed(k.token) != k.want {
				t.Errorf("Formed(%v) isn't %v", k.token, k.want)
			}
		}
	}
}

// P7.2: a blank between two, and nothing ahead of the first or behind the last.
func TestJoin(t *testing.T) {
	for _, c := range []struct {
		want string
		l    []lex.Token
	}{
		{"", nil},
		{"", []lex.Token{}},
		{"a", []lex.Token{word("a")}},
		{`""`, []lex.Token{text("")}},
		{"1 2", []lex.Token{number(1), number(2)}},
		{"permit a1 if x <= 2 ;", []lex.Token{word("permit"), word("a1"), word("if"), word("x"), sign("<="), number(2), sign(";")}},
		{`subject . x < <= @7 - "a\"\\" ]`, []lex.Token{word("subject"), sign("."), word("x"), sign("<"), sign("<="), at(7), sign("-"), text(`a"\`), sign("]")}},
	} {
		if got := lex.Join(c.l...); got != c.want {
			t.Errorf("Join(%v) is %q, not %q", c.l, got, c.want)
		}
	}
}

// P7.2: one that isn't formed is shown as nothing, with the blanks that it has as any other.
func TestJoinUnformed(t *testing.T) {
	for _, k := range unformed() {
		for _, c := range []struct {
			want string
			l    []lex.Token
		}{
			{"", []lex.Token{k}},
			{" ", []lex.Token{k, k}},
			{" a", []lex.Token{k, word("a")}},
			{"a ", []lex.Token{word("a"), k}},
			{"a  b", []lex.Token{word("a"), k, word("b")}},
		} {
			if got := lex.Join(c.l...); got != c.want {
				t.Errorf("Join with %d, %.80q, %d is %.80q, not %q", k.Kind, k.S, k.N, got, c.want)
			}
		}
	}
}

// P7.2: Join is all that Show says, of every two tokens.
func TestJoinShown(t *testing.T) {
	for a, x := range formed() {
		for b, y := range formed() {
			if got := lex.Join(a, b); got != x+" "+y {
				t.Errorf("Join(%v, %v) is %q", a, b, got)
			}
		}
	}
}

// R5: the tokens are left as they are, those in spare room too.
func TestJoinLeft(t *testing.T) {
	room := []lex.Token{word("a"), text(`"`), number(7), {Kind: 9, S: "x", N: -1}, sign("<")}
	before := slices.Clone(room)
	lex.Join(room[:3]...)
	lex.Join(room...)
	if !slices.Equal(room, before) {
		t.Error(room)
	}
}

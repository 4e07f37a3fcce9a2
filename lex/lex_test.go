package lex_test

import (
	"math"
	"slices"
	"strings"
	"testing"

	"gatepost/api"
	"gatepost/lex"
)

func word(s string) lex.Token  { return lex.Token{Kind: 1, S: s} }
func number(n int64) lex.Token { return lex.Token{Kind: 2, N: n} }
func text(s string) lex.Token  { return lex.Token{Kind: 3, S: s} }
func at(n int64) lex.Token     { return lex.Token{Kind: 4, N: n} }
func sign(s string) lex.Token  { return lex.Token{Kind: 5, S: s} }

// allSigns are the chapter's signs, in its order.
func allSigns() []string {
	return strings.Fields("{ } ( ) [ ] ; . , + - * == != <= >= < >")
}

// bytes256 are all bytes, each as a string.
func bytes256() []string {
	var l []string
	for b := range 256 {
		l = append(l, string([]byte{byte(b)}))
	}
	return l
}

// reads is that a text is just these tokens.
func reads(t *testing.T, s string, want ...lex.Token) {
	t.Helper()
	l, place, e := lex.Lex(s)
	if e != api.OK || place != 0 || !slices.Equal(l, want) {
		t.Errorf("Lex(%q) is %v, %d, %d, not %v", s, l, place, e, want)
	}
}

// fails is that a text goes wrong with that error at that place, and that nothing is told beside.
func fails(t *testing.T, s string, e api.Errno, place int) {
	t.Helper()
	l, got, f := lex.Lex(s)
	if f != e || got != place || len(l) != 0 {
		t.Errorf("Lex(%q) is %v, %d, %d, not the error %d at %d", s, l, got, f, e, place)
	}
}

// P7.1: what the chapter says in so many words, and lines of a policy.
func TestLexOrdinary(t *testing.T) {
	reads(t, "permit a1 if x<=2;", word("permit"), word("a1"), word("if"), word("x"), sign("<="), number(2), sign(";"))
	reads(t, "policy p by root use deny_overrides {\n  for subject.level >= 3\n}",
		word("policy"), word("p"), word("by"), word("root"), word("use"), word("deny_overrides"), sign("{"),
		word("for"), word("subject"), sign("."), word("level"), sign(">="), number(3), sign("}"))
	reads(t, `now<@9+1*[-2,"a"]`, word("now"), sign("<"), at(9), sign("+"), number(1), sign("*"), sign("["), sign("-"), number(2), sign(","), text("a"), sign("]"))
}

// P7.1: texts without a token.
func TestLexNothing(t *testing.T) {
	for _, s := range []string{"", " ", "\n", "   \n \n\n ", "#", "##", "# all", "#\n", "# one\n# two", " \n#x\n \n#y\n\n ", "#\t\r\x00\xff\x80é\"@!=", strings.Repeat(" ", 4096), strings.Repeat("\n", 4096), "#" + strings.Repeat("\"", 4095)} {
		reads(t, s)
	}
}

// P7.1: what stands between tokens ends the one ahead, and a comment ends at a line feed or with the text.
func TestLexBetween(t *testing.T) {
	reads(t, " a\nb  c ", word("a"), word("b"), word("c"))
	reads(t, "a#b c\nd", word("a"), word("d"))
	reads(t, "7#x\n@7#y\n\"#\"#z", number(7), at(7), text("#"))
	reads(t, "a # all of this", word("a"))
	reads(t, "a # one # two\n# three\nb", word("a"), word("b"))
	reads(t, "<\n==", sign("<"), sign("=="))
	reads(t, "<#\n==", sign("<"), sign("=="))
	reads(t, "< <=", sign("<"), sign("<="))
	reads(t, "1 2\n3", number(1), number(2), number(3))
	reads(t, "1 a @2 b @3\nc", number(1), word("a"), at(2), word("b"), at(3), word("c"))
	reads(t, "#\xff\x00\t\nb", word("b"))
	reads(t, "#a\rb\nc", word("c"))
}

// P7.1: bytes with which nothing begins, at the beginning, behind tokens, and behind a comment.
func TestLexStrange(t *testing.T) {
	for _, c := range bytes256() {
		if strings.Contains(" \n#\"@!={}()[];.,+-*<>", c) || "a" <= c && c <= "z" || "0" <= c && c <= "9" {
			continue
		}
		fails(t, c, api.ErrForm, 0)
		fails(t, c+"a", api.ErrForm, 0)
		fails(t, "a "+c, api.ErrForm, 2)
		fails(t, "a; "+c+" a", api.ErrForm, 3)
		fails(t, "# \n"+c, api.ErrForm, 3)
		fails(t, "\"\""+c, api.ErrForm, 2)
		if c != "_" {
			fails(t, "a"+c, api.ErrForm, 1)
			fails(t, "7"+c, api.ErrForm, 1)
			fails(t, "@7"+c, api.ErrForm, 2)
		}
	}
}

// P7.1: words of all bytes that may stand in one, up to MaxText of them.
func TestLexWords(t *testing.T) {
	long := "a" + strings.Repeat("z09_", 16)
	for _, s := range []string{"a", "z", "a_", "z_9", "a0", "abcdefghijklmnopqrstuvwxyz", "q0123456789_", "if", "not", "a__b", long[:63], long[:64]} {
		reads(t, s, word(s))
		reads(t, s+" "+s+";", word(s), word(s), sign(";"))
	}
	for _, s := range []string{long, long + long, strings.Repeat("x", 4096)} {
		fails(t, s, api.ErrForm, 0)
		fails(t, s[:65]+" c", api.ErrForm, 0)
		fails(t, "b "+s[:65], api.ErrForm, 2)
	}
	fails(t, "_a", api.ErrForm, 0)
	fails(t, "Aa", api.ErrForm, 0)
	fails(t, "aB", api.ErrForm, 1)
	fails(t, "aé", api.ErrForm, 1)
	reads(t, `a1"b"`, word("a1"), text("b"))
	reads(t, "a@1", word("a"), at(1))
}

// edges are numbers as digits, with what they are, and whether they are numbers, and times.
var edges = []struct {
	digits       string
	n            int64
	number, time bool
}{
	{"0", 0, true, true},
	{"7", 7, true, true},
	{"10", 10, true, true},
	{"007", 7, true, true},
	{"00", 0, true, true},
	{"0000000000000000000", 0, true, true},
	{"0000000000000000009", 9, true, true},
	{"00000000000000000000", 0, false, false},
	{"00000000000000000009", 0, false, false},
	{"1099511627775", 1<<40 - 1, true, true},
	{"1099511627776", 1 << 40, true, true},
	{"0000001099511627776", 1 << 40, true, true},
	{"00000001099511627776", 0, false, false},
	{"1099511627777", 1<<40 + 1, true, false},
	{"0000001099511627777", 1<<40 + 1, true, false},
	{"999999999999999999", 999999999999999999, true, false},
	{"1000000000000000000", 1000000000000000000, true, false},
	{"9223372036854775806", math.MaxInt64 - 1, true, false},
	{"9223372036854775807", math.MaxInt64, true, false},
	{"09223372036854775807", 0, false, false},
	{"9223372036854775808", 0, false, false},
	{"9999999999999999999", 0, false, false},
	{"10000000000000000000", 0, false, false},
	{"18446744073709551617", 0, false, false},
	{strings.Repeat("0", 4000), 0, false, false},
}

// P7.1: numbers and times at their edges, alone, behind others and ahead of them.
func TestLexNumbers(t *testing.T) {
	for _, c := range edges {
		d := c.digits
		if c.number {
			reads(t, d, number(c.n))
			reads(t, "a "+d+"]", word("a"), number(c.n), sign("]"))
			reads(t, "-"+d+"#", sign("-"), number(c.n))
		} else {
			fails(t, d, api.ErrForm, 0)
			fails(t, "a "+d+" ", api.ErrForm, 2)
		}
		if c.time {
			reads(t, "@"+d, at(c.n))
			reads(t, "a@"+d+"+", word("a"), at(c.n), sign("+"))
		} else {
			fails(t, "@"+d, api.ErrForm, 0)
			fails(t, "a@"+d+" ", api.ErrForm, 1)
		}
	}
}

// P7.1: no small letter and no underscore behind a number or a time; all else that may begin there.
func TestLexBehindNumbers(t *testing.T) {
	for _, c := range append(strings.Split("abcdefghijklmnopqrstuvwxyz", ""), "_") {
		for _, d := range []string{"1", "0", "12", "9223372036854775807", "@0", "@1", "@1099511627776"} {
			fails(t, d+c, api.ErrForm, 0)
			fails(t, "x "+d+c+" y", api.ErrForm, 2)
			fails(t, "x;"+d+c+"1", api.ErrForm, 2)
		}
	}
	reads(t, `1"a"`, number(1), text("a"))
	reads(t, `@1"a"`, at(1), text("a"))
	reads(t, "1@2@3", number(1), at(2), at(3))
	reads(t, "1.2", number(1), sign("."), number(2))
	for _, s := range allSigns() {
		reads(t, "1"+s+"@2"+s, number(1), sign(s), at(2), sign(s))
	}
	fails(t, "1X", api.ErrForm, 1)
	fails(t, "@1X", api.ErrForm, 2)
	fails(t, "1`", api.ErrForm, 1)
	fails(t, "1{|", api.ErrForm, 2)
}

// P7.1: an @ with no number right behind it.
func TestLexTimesWithout(t *testing.T) {
	for _, s := range []string{"@", "@ 1", "@a", "@@1", "@-1", "@\n1", "@\"1\"", "@_1", "@#\n1", "@+1", "@A", "@/", "@:"} {
		fails(t, s, api.ErrForm, 0)
		fails(t, "a;"+s, api.ErrForm, 2)
	}
}

// P7.1: each byte in a text as it is, and with a backslash ahead.
func TestLexTextBytes(t *testing.T) {
	for _, c := range bytes256() {
		if c == `"` || c == `\` {
			reads(t, `"\`+c+`"`, text(c))
			reads(t, `"a\`+c+`b"`, text("a"+c+"b"))
			reads(t, `"\`+c+`\`+c+`"`, text(c+c))
			continue
		}
		fails(t, `"\`+c+`"`, api.ErrForm, 0)
		fails(t, `;"a\`+c+`b"`, api.ErrForm, 1)
		if c < " " || c > "~" {
			fails(t, `"`+c+`"`, api.ErrForm, 0)
			fails(t, `;"a`+c+`b"`, api.ErrForm, 1)
			continue
		}
		reads(t, `"`+c+`"`, text(c))
		reads(t, `;"a`+c+`b"`, sign(";"), text("a"+c+"b"))
	}
}

// P7.1: texts of none and of many bytes, those with a backslash ahead counted once, and where they end.
func TestLexTexts(t *testing.T) {
	reads(t, `""`, text(""))
	reads(t, `"""a"" "`, text(""), text("a"), text(" "))
	reads(t, `"a"b"c"`, text("a"), word("b"), text("c"))
	reads(t, `"\\""a"`, text(`\`), text("a"))
	reads(t, `"# no comment" # "one`, text("# no comment"))
	reads(t, `"@1 { 9x A"`, text("@1 { 9x A"))
	for _, c := range []string{"a", " ", "~", `"`, `\`} {
		shown := c
		if c == `"` || c == `\` {
			shown = `\` + c
		}
		for _, n := range []int{1, 63, 64} {
			reads(t, `"`+strings.Repeat(shown, n)+`"`, text(strings.Repeat(c, n)))
		}
		for _, n := range []int{65, 66, 2000} {
			fails(t, `"`+strings.Repeat(shown, n)+`"`, api.ErrForm, 0)
			fails(t, `b"`+strings.Repeat(shown, n)+`"c`, api.ErrForm, 1)
		}
	}
}

// P7.1: texts that have no end.
func TestLexTextsWithoutEnd(t *testing.T) {
	for _, s := range []string{`"`, `"a`, `"\`, `"\"`, `"\\\"`, `"a\`, `"a\"`, `"a # b`, `"` + strings.Repeat("a", 64), `"` + strings.Repeat("a", 4000), `"` + strings.Repeat(`\"`, 2000)} {
		fails(t, s, api.ErrForm, 0)
		fails(t, "a "+s, api.ErrForm, 2)
		fails(t, `""`+s, api.ErrForm, 2)
		fails(t, s+"\n", api.ErrForm, 0)
	}
	fails(t, "\"a\n\"", api.ErrForm, 0)
	fails(t, `"a" "b" "`, api.ErrForm, 8)
}

// P7.1: each sign, and each two without a blank: the longer one, where both can be.
func TestLexSigns(t *testing.T) {
	reads(t, "{}()[];.,+-*==!=<=>=<>", sign("{"), sign("}"), sign("("), sign(")"), sign("["), sign("]"), sign(";"), sign("."), sign(","), sign("+"), sign("-"), sign("*"),
		sign("=="), sign("!="), sign("<="), sign(">="), sign("<"), sign(">"))
	for _, a := range allSigns() {
		reads(t, a, sign(a))
		for _, b := range allSigns() {
			reads(t, a+" "+b, sign(a), sign(b))
			if b == "==" && (a == "<" || a == ">") {
				fails(t, a+b, api.ErrForm, 2)
				continue
			}
			reads(t, a+b, sign(a), sign(b))
		}
	}
	reads(t, "====", sign("=="), sign("=="))
	reads(t, "<<=>>=<>=", sign("<"), sign("<="), sign(">"), sign(">="), sign("<"), sign(">="))
}

// P7.1: a single =, a single !, and what isn't among the signs.
func TestLexSignsNone(t *testing.T) {
	for _, s := range []string{"=", "!", "= ", "! ", "= =", "! =", "=\n=", "=#\n=", "=!", "!!", "!<", "=<", "=>", "=a", "!a", "&", "|", "/", ":", "%", "?", "'", "^", "~", "$", "`", "\\"} {
		fails(t, s, api.ErrForm, 0)
		fails(t, "a"+s, api.ErrForm, 1)
	}
	for _, s := range []string{"===", "!==", "<==", ">==", "==!", "<=!", "<>!"} {
		fails(t, s, api.ErrForm, 2)
	}
}

// P7.1: the first from left to right is told.
func TestLexLeftToRight(t *testing.T) {
	fails(t, "a B \"", api.ErrForm, 2)
	fails(t, "a \"b B", api.ErrForm, 2)
	fails(t, "= !", api.ErrForm, 0)
	fails(t, "a @1099511627777 1x", api.ErrForm, 2)
	fails(t, "# A\n\n \"x\" ; 1x =", api.ErrForm, 12)
}

package lex_test

import (
	"math/big"
	"math/rand"
	"regexp"
	"slices"
	"strings"
	"testing"

	"gatepost/api"
	"gatepost/lex"
)

// The chapter's words as patterns, each from where it is asked.
var (
	gaps    = regexp.MustCompile(`^(?:[ \n]|#[^\n]*)+`)
	words   = regexp.MustCompile(`^[a-z][a-z0-9_]*`)
	numbers = regexp.MustCompile(`^@?[0-9]+`)
	behinds = regexp.MustCompile(`^[a-z_]`)
	texts   = regexp.MustCompile(`^"(?:[ !#-\[\]-~]|\\["\\])*"`)
	marks   = regexp.MustCompile(`\\(.)`)
	twos    = regexp.MustCompile(`^[=!<>]=`)
	ones    = regexp.MustCompile(`^[][{}();.,+*<>-]`)
)

// plainFirst is the token that rest begins with, and its length: 0, if there is none.
func plainFirst(rest string) (lex.Token, int) {
	if s := words.FindString(rest); s != "" {
		if len(s) > api.MaxText {
			return lex.Token{}, 0
		}
		return word(s), len(s)
	}
	if s := numbers.FindString(rest); s != "" {
		digits := strings.TrimPrefix(s, "@")
		n, _ := new(big.Int).SetString(digits, 10)
		if len(digits) > 19 || !n.IsInt64() || behinds.MatchString(rest[len(s):]) {
			return lex.Token{}, 0
		}
		if digits == s {
			return number(n.Int64()), len(s)
		}
		if n.Int64() > api.MaxTime {
			return lex.Token{}, 0
		}
		return at(n.Int64()), len(s)
	}
	if s := texts.FindString(rest); s != "" {
		inner := marks.ReplaceAllString(s[1:len(s)-1], "$1")
		if len(inner) > api.MaxText {
			return lex.Token{}, 0
		}
		return text(inner), len(s)
	}
	s := twos.FindString(rest)
	if s == "" {
		s = ones.FindString(rest)
	}
	return sign(s), len(s)
}

// plainLex is P7.1 by the patterns.
func plainLex(s string) ([]lex.Token, int, api.Errno) {
	if len(s) > api.MaxBytes {
		return nil, 0, api.ErrLong
	}
	var l []lex.Token
	for at := 0; ; {
		at += len(gaps.FindString(s[at:]))
		if at == len(s) {
			return l, 0, api.OK
		}
		t, n := plainFirst(s[at:])
		if n == 0 {
			return nil, at, api.ErrForm
		}
		if len(l) == api.MaxTokens {
			return nil, at, api.ErrMany
		}
		l = append(l, t)
		at += n
	}
}

// pieces are what texts are put together of: mostly tokens, and some that go wrong with what is behind them.
var pieces = []string{
	" ", "  ", "\n", "#", "# x\n", "a", "z9_", "if", "x1", "_", "A", "0", "7", "00", "19", "@", "@7", "@1099511627776", "9223372036854775807", "99999", "\"", "\"a\"", "\"\\\"\"", "\\", "\"\\\\\"", "{", "}", "(", ")", "[", "]", ";", ".", ",", "+", "-", "*", "=", "==", "!", "!=", "<", "<=", ">", ">=", "\x1f", "\x7f", "\t", "é", "\xff", strings.Repeat("b", 32), strings.Repeat("0", 9),
}

// anyText is some pieces, of which the rare ones come up at times alone.
func anyText(r *rand.Rand) string {
	var b strings.Builder
	clean := r.Intn(2) == 0
	for range r.Intn(40) {
		p := pieces[r.Intn(len(pieces))]
		if t, n := plainFirst(p); clean && (n != len(p) || t.Kind == 0) {
			p = " "
		}
		b.WriteString(p)
		if clean && r.Intn(3) == 0 {
			b.WriteString(" ")
		}
	}
	return b.String()
}

// asPlain is that a text is lexed as by the patterns.
func asPlain(t *testing.T, s string) {
	t.Helper()
	l, place, e := lex.Lex(s)
	want, at, f := plainLex(s)
	if e != f || place != at || !slices.Equal(l, want) {
		t.Fatalf("Lex(%q) is %v, %d, %d, not %v, %d, %d", s, l, place, e, want, at, f)
	}
}

// P7.1: every two and three pieces beside one another.
func TestModelPieces(t *testing.T) {
	for _, a := range pieces {
		asPlain(t, a)
		for _, b := range pieces {
			asPlain(t, a+b)
			for _, c := range pieces {
				asPlain(t, a+b+c)
			}
		}
	}
}

// P7.1: many pieces, and so many that there are too many tokens, or bytes.
func TestModelAny(t *testing.T) {
	r := rand.New(rand.NewSource(7))
	for range 20000 {
		asPlain(t, anyText(r))
	}
	for range 300 {
		var b strings.Builder
		for b.Len() < 3000+r.Intn(1500) {
			b.WriteString([]string{"a ", "7;", "==", "@7 ", `"a\"b"`, "# x\n", strings.Repeat("x", 60) + "\n", strings.Repeat(" ", 60)}[r.Intn(8)])
		}
		asPlain(t, b.String())
	}
}

// anyToken is one of the formed ones, or one made anew.
func anyToken(r *rand.Rand, known []lex.Token) lex.Token {
	switch r.Intn(6) {
	case 0:
		return number(r.Int63() >> r.Intn(64))
	case 1:
		return at(r.Int63n(api.MaxTime+1) >> r.Intn(41))
	case 2:
		b := make([]byte, r.Intn(api.MaxText+1)>>r.Intn(5))
		for i := range b {
			b[i] = ` a"\#~`[r.Intn(6)]
		}
		return text(string(b))
	case 3:
		b := []byte("a")
		for range r.Intn(api.MaxText) >> r.Intn(5) {
			b = append(b, "az09_q"[r.Intn(6)])
		}
		return word(string(b))
	}
	return known[r.Intn(len(known))]
}

// P7.3: every two formed tokens, joined, are lexed as they were.
func TestJoinedTwo(t *testing.T) {
	for a := range formed() {
		reads(t, lex.Join(a), a)
		for b := range formed() {
			reads(t, lex.Join(a, b), a, b)
		}
	}
}

// P7.3: lists of formed tokens, joined, are lexed as they were, or are too long.
func TestJoinedAny(t *testing.T) {
	r := rand.New(rand.NewSource(73))
	var known []lex.Token
	for _, s := range allSigns() {
		known = append(known, sign(s), word("a"), number(7))
	}
	long := 0
	for range 3000 {
		var l []lex.Token
		for range r.Intn(800) >> r.Intn(6) {
			l = append(l, anyToken(r, known))
		}
		s := lex.Join(l...)
		switch {
		case len(s) > api.MaxBytes:
			fails(t, s, api.ErrLong, 0)
			long++
		case len(l) <= api.MaxTokens:
			reads(t, s, l...)
		}
	}
	if long == 0 || long > 1500 {
		t.Error(long, "are too long")
	}
}

// P7.3: just MaxTokens and one more, just MaxBytes and one more.
func TestJoinedEdges(t *testing.T) {
	for _, k := range []lex.Token{word("a"), number(7), sign("<="), text(""), at(7)} {
		l := slices.Repeat([]lex.Token{k}, api.MaxTokens)
		reads(t, lex.Join(l...), l...)
		fails(t, lex.Join(append(l, k)...), api.ErrMany, len(lex.Join(l...))+1)
	}
	l := slices.Repeat([]lex.Token{word(strings.Repeat("a", 63))}, 64)
	l[63] = word(strings.Repeat("b", 64))
	if n := len(lex.Join(l...)); n != api.MaxBytes {
		t.Fatal(n)
	}
	reads(t, lex.Join(l...), l...)
	l[0] = word(strings.Repeat("c", 64))
	fails(t, lex.Join(l...), api.ErrLong, 0)
}

// P7.3: what was lexed, joined, is lexed as the same, though blanks and comments are gone.
func TestJoinedAgain(t *testing.T) {
	r := rand.New(rand.NewSource(74))
	good := 0
	for range 20000 {
		l, _, e := lex.Lex(anyText(r))
		if e != api.OK || len(l) == 0 {
			continue
		}
		good++
		reads(t, lex.Join(l...), l...)
	}
	if good < 1000 {
		t.Error(good)
	}
}

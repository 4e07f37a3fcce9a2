package lex_test

import (
	"slices"
	"strings"
	"testing"

	"gatepost/api"
	"gatepost/lex"
)

// P7.1: just MaxTokens tokens, and one more, with and without blanks between.
func TestMaxTokens(t *testing.T) {
	for _, c := range []struct {
		shown string
		token lex.Token
	}{
		{";", sign(";")}, {"a ", word("a")}, {"7\n", number(7)}, {"@7", at(7)}, {`""`, text("")}, {"<=", sign("<=")},
	} {
		full := strings.Repeat(c.shown, api.MaxTokens)
		reads(t, full, slices.Repeat([]lex.Token{c.token}, api.MaxTokens)...)
		reads(t, full+" \n# and no more", slices.Repeat([]lex.Token{c.token}, api.MaxTokens)...)
		for _, more := range []string{";", "a", " 7", " @7", ` "b"`, "\n<="} {
			place := len(full) + len(more) - len(strings.TrimLeft(more, " \n"))
			if c.shown == "@7" && more == "a" {
				continue
			}
			fails(t, full+more, api.ErrMany, place)
			fails(t, full+more+" # \n;;", api.ErrMany, place)
		}
		fails(t, full+" # one\n ;", api.ErrMany, len(full)+8)
	}
}

// P7.1: what is none is told ahead of what is too many only where it comes first.
func TestMaxTokensAndForm(t *testing.T) {
	full := strings.Repeat(";", api.MaxTokens)
	for _, bad := range []string{"A", "1x", "=", `"a`, "@", strings.Repeat("a", 65), "9223372036854775808"} {
		fails(t, full+bad, api.ErrForm, api.MaxTokens)
		fails(t, full+" "+bad+" ;", api.ErrForm, api.MaxTokens+1)
		fails(t, full+"; "+bad, api.ErrMany, api.MaxTokens)
		fails(t, full[1:]+bad, api.ErrForm, api.MaxTokens-1)
		fails(t, full[1:]+"a "+bad, api.ErrForm, api.MaxTokens+1)
		fails(t, bad+" "+full+full, api.ErrForm, 0)
	}
}

// P7.1: just MaxBytes bytes, and one more, whatever they are.
func TestMaxBytes(t *testing.T) {
	most := api.MaxBytes
	blanks := strings.Repeat(" ", most)
	reads(t, blanks)
	reads(t, "a"+blanks[1:], word("a"))
	reads(t, blanks[1:]+"a", word("a"))
	reads(t, "#"+strings.Repeat("é", most)[:most-1])
	reads(t, blanks[5:]+"\"\\\"b\"", text("\"b"))
	fails(t, blanks[1:]+"=", api.ErrForm, most-1)
	fails(t, blanks[1:]+"\"", api.ErrForm, most-1)
	fails(t, blanks[2:]+"1x", api.ErrForm, most-2)
	for _, s := range []string{blanks + " ", blanks + "a", "a" + blanks, "A" + blanks, "=" + blanks, "#" + blanks, `"` + blanks, blanks + "\n", blanks + "=", strings.Repeat(";", most+1), strings.Repeat("A", 10*most), strings.Repeat("é", most)} {
		fails(t, s, api.ErrLong, 0)
	}
	fails(t, strings.Repeat(";", most), api.ErrMany, api.MaxTokens)
}

// R5: each answer is new memory.
func TestLexNewMemory(t *testing.T) {
	a, _, _ := lex.Lex("a b c")
	b, _, _ := lex.Lex("a b c")
	a[0], a[2] = number(7), lex.Token{}
	_ = append(a[:1], sign(";"))
	if !slices.Equal(b, []lex.Token{word("a"), word("b"), word("c")}) {
		t.Error(b)
	}
	reads(t, "a b c", word("a"), word("b"), word("c"))
}

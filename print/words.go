package print

import (
	"slices"
	"strings"

	"gatepost/api"
	"gatepost/lex"
	"gatepost/syntax"
	"gatepost/value"
)

// The kinds of tokens.
const (
	tokenWord   = 1
	tokenNumber = 2
	tokenText   = 3
	tokenTime   = 4
	tokenSign   = 5
)

// The kinds of values.
const (
	kindNone   = 0
	kindTruth  = 1
	kindNumber = 2
	kindText   = 3
	kindTime   = 4
	kindBag    = 5
)

// word is the token of a word. It shares nothing with what is written, as tokens are answered.
func word(s string) lex.Token {
	return lex.Token{Kind: tokenWord, S: strings.Clone(s)}
}

func text(s string) lex.Token {
	return lex.Token{Kind: tokenText, S: strings.Clone(s)}
}

func sign(s string) lex.Token {
	return lex.Token{Kind: tokenSign, S: strings.Clone(s)}
}

// words are the tokens of some words.
func words(l ...string) []lex.Token {
	var tokens []lex.Token
	for _, s := range l {
		tokens = append(tokens, word(s))
	}
	return tokens
}

// attribute is the tokens of an attribute.
func attribute(who, name string) []lex.Token {
	return []lex.Token{word(who), sign("."), word(name)}
}

// literal is the tokens of a value, if each of them is formed: else no tokens stand for it.
func literal(v api.Value) []lex.Token {
	if v.Kind != kindBag {
		return []lex.Token{plain(v)}
	}
	l := []lex.Token{sign("[")}
	for i, x := range v.L {
		if i > 0 {
			l = append(l, sign(","))
		}
		l = append(l, member(x)...)
	}
	return append(l, sign("]"))
}

// plain is the token of a value that is no bag.
func plain(v api.Value) lex.Token {
	switch v.Kind {
	case kindTruth:
		if v.I == 1 {
			return word("true")
		}
		return word("false")
	case kindNumber:
		return lex.Token{Kind: tokenNumber, N: v.I}
	case kindText:
		return text(v.S)
	case kindTime:
		return lex.Token{Kind: tokenTime, N: v.I}
	}
	return lex.Token{}
}

// member is the tokens of a bag's value: there a number may have a - ahead. The least number of all is still below 0 without it, and so no token's.
func member(v api.Value) []lex.Token {
	if v.Kind == kindNumber && v.I < 0 {
		return []lex.Token{sign("-"), plain(value.Number(-v.I))}
	}
	return []lex.Token{plain(v)}
}

// isWord is whether s is a word's token.
func isWord(s string) bool {
	return lex.Formed(lex.Token{Kind: tokenWord, S: s})
}

// isName is whether s may be a name.
func isName(s string) bool {
	return isWord(s) && !syntax.Kept(s)
}

// isText is whether s is a text's token.
func isText(s string) bool {
	return lex.Formed(lex.Token{Kind: tokenText, S: s})
}

// isWho is whether who is one of those that have attributes.
func isWho(who string) bool {
	switch who {
	case "subject", "resource", "action", "env":
		return true
	}
	return false
}

// isNone is whether v is no value.
func isNone(v api.Value) bool {
	return v.Kind == kindNone && value.Formed(v)
}

// isLiteral is whether tokens stand for v.
func isLiteral(v api.Value) bool {
	if !value.Formed(v) || v.Kind == kindBag && len(v.L) == 0 {
		return false
	}
	return !slices.ContainsFunc(literal(v), func(t lex.Token) bool { return !lex.Formed(t) })
}

package lex

import (
	"strconv"
	"strings"

	"gatepost/api"
)

// signs are all signs, the longer ones ahead of those that they begin with.
var signs = [...]string{"==", "!=", "<=", ">=", "<", ">", "{", "}", "(", ")", "[", "]", ";", ".", ",", "+", "-", "*"}

// Formed is whether t is a token by the chapter's words, with nothing else.
func Formed(t Token) bool {
	switch t.Kind {
	case kindWord:
		return t.N == 0 && isWord(t.S)
	case kindNumber:
		return t.S == "" && t.N >= 0
	case kindText:
		return t.N == 0 && isText(t.S)
	case kindTime:
		return t.S == "" && 0 <= t.N && t.N <= api.MaxTime
	case kindSign:
		return t.N == 0 && isSign(t.S)
	}
	return false
}

// Show is the text of a formed token.
func Show(t Token) string {
	return string(appendShown(nil, t))
}

// Join is the text of all tokens, a blank between two.
func Join(tokens ...Token) string {
	var b []byte
	for i, t := range tokens {
		if i > 0 {
			b = append(b, ' ')
		}
		b = appendShown(b, t)
	}
	return string(b)
}

// appendShown is b with a token's text behind it: none, if it isn't formed.
func appendShown(b []byte, t Token) []byte {
	if !Formed(t) {
		return b
	}
	switch t.Kind {
	case kindNumber:
		return strconv.AppendInt(b, t.N, 10)
	case kindTime:
		return strconv.AppendInt(append(b, '@'), t.N, 10)
	case kindText:
		return appendQuoted(b, t.S)
	}
	return append(b, t.S...)
}

// appendQuoted is b with s behind it, between quotes.
func appendQuoted(b []byte, s string) []byte {
	b = append(b, '"')
	for i := range len(s) {
		if isMarked(s[i]) {
			b = append(b, '\\')
		}
		b = append(b, s[i])
	}
	return append(b, '"')
}

func isWord(s string) bool {
	return s != "" && len(s) <= api.MaxText && isLetter(s[0]) && run(s, isInner) == len(s)
}

// isText is whether a text's token may have s, its backslashes left out.
func isText(s string) bool {
	return len(s) <= api.MaxText && run(s, isPlain) == len(s)
}

func isSign(s string) bool {
	return s != "" && firstSign(s) == s
}

// firstSign is the longest sign that s begins with, or "".
func firstSign(s string) string {
	for _, sign := range signs {
		if strings.HasPrefix(s, sign) {
			return sign
		}
	}
	return ""
}

func isLetter(b byte) bool {
	return 'a' <= b && b <= 'z'
}

func isDigit(b byte) bool {
	return '0' <= b && b <= '9'
}

// isInner is whether b may stand in a word behind its first letter.
func isInner(b byte) bool {
	return isLetter(b) || isDigit(b) || b == '_'
}

// isPlain is whether b may stand in a text.
func isPlain(b byte) bool {
	return ' ' <= b && b <= '~'
}

// isMarked is whether b stands in a text with a backslash ahead.
func isMarked(b byte) bool {
	return b == '"' || b == '\\'
}

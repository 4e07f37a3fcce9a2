package lex

import (
	"strconv"
	"strings"
)

// maxDigits is how many digits a number has at most, noughts ahead too.
const maxDigits = 19

// first is the token that s, which isn't empty, begins with, and how many bytes of s it takes. Where there is none, the token isn't formed: too long a word, too great a time are told so by Formed alone, which has to ask it anyway.
func first(s string) (Token, int) {
	switch b := s[0]; {
	case isLetter(b):
		return readWord(s)
	case isDigit(b):
		return readNumber(s)
	case b == '"':
		return readText(s)
	case b == '@':
		return readTime(s)
	}
	return readSign(s)
}

// readWord reads on as long as bytes are a word's own.
func readWord(s string) (Token, int) {
	n := run(s, isInner)
	// A piece of s would keep all of the text.
	return Token{Kind: kindWord, S: strings.Clone(s[:n])}, n
}

func readNumber(s string) (Token, int) {
	n, length := digits(s)
	if length == 0 {
		return Token{}, 0
	}
	return Token{Kind: kindNumber, N: n}, length
}

func readTime(s string) (Token, int) {
	n, length := digits(s[1:])
	if length == 0 {
		return Token{}, 0
	}
	return Token{Kind: kindTime, N: n}, 1 + length
}

// readText reads up to the quote that has no backslash ahead.
func readText(s string) (Token, int) {
	var inner []byte
	for at := 1; at < len(s); at++ {
		if s[at] == '"' {
			return Token{Kind: kindText, S: string(inner)}, at + 1
		}
		if s[at] == '\\' {
			at++
			if at == len(s) || !isMarked(s[at]) {
				return Token{}, 0
			}
		}
		inner = append(inner, s[at])
	}
	return Token{}, 0
}

func readSign(s string) (Token, int) {
	sign := firstSign(s)
	return Token{Kind: kindSign, S: sign}, len(sign)
}

// digits is the number that s begins with, and how many digits it has: none, if they make no number, or what stands behind them may not.
func digits(s string) (int64, int) {
	length := run(s, isDigit)
	if length > maxDigits || length < len(s) && (isLetter(s[length]) || s[length] == '_') {
		return 0, 0
	}
	n, err := strconv.ParseInt(s[:length], 10, 64)
	if err != nil {
		return 0, 0
	}
	return n, length
}

// run is how many bytes s begins with that all are so.
func run(s string, so func(byte) bool) int {
	n := 0
	for n < len(s) && so(s[n]) {
		n++
	}
	return n
}

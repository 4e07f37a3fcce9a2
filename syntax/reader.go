package syntax

import (
	"strings"

	"gatepost/api"
	"gatepost/lex"
)

// The kinds of tokens.
const (
	tokenWord   = 1
	tokenNumber = 2
	tokenText   = 3
	tokenTime   = 4
	tokenSign   = 5
)

// reader is what all readers share: the tokens, how many of them are read, and what went wrong first. Behind that nothing goes on, so that no reader has to ask call by call.
type reader struct {
	tokens []lex.Token
	at     int
	place  int
	fault  api.Errno
}

// fail keeps what went wrong, if nothing did so far.
func (r *reader) fail(e api.Errno, place int) {
	if r.fault == api.OK {
		r.fault, r.place = e, place
	}
}

// stop says that the token ahead is one with which nothing goes on.
func (r *reader) stop() {
	r.fail(api.ErrForm, r.at)
}

// end says that the tokens have to be over.
func (r *reader) end() {
	if r.at < len(r.tokens) {
		r.stop()
	}
}

// ahead is the token that comes next: one of no kind, if nothing goes on with it, whatever it should be.
func (r *reader) ahead() lex.Token {
	if r.fault != api.OK || r.at == len(r.tokens) || !lex.Formed(r.tokens[r.at]) {
		return lex.Token{}
	}
	return r.tokens[r.at]
}

// pass reads the token ahead, whatever it is.
func (r *reader) pass() {
	r.at++
}

// takes reads a word, or a sign, if it is the token ahead.
func (r *reader) takes(s string) bool {
	t := r.ahead()
	if t.Kind != tokenWord && t.Kind != tokenSign || t.S != s {
		return false
	}
	r.pass()
	return true
}

// takesOne reads the token ahead, if it is one of these words or signs, and is which: "", if it is none.
func (r *reader) takesOne(of ...string) string {
	for _, s := range of {
		if r.takes(s) {
			return s
		}
	}
	return ""
}

// needs reads a word, or a sign, that has to be the token ahead.
func (r *reader) needs(s string) {
	if !r.takes(s) {
		r.stop()
	}
}

// word reads any word, a kept one too.
func (r *reader) word() string {
	return r.own(tokenWord)
}

// text reads a text.
func (r *reader) text() string {
	return r.own(tokenText)
}

// name reads a word that isn't kept.
func (r *reader) name() string {
	if Kept(r.ahead().S) {
		r.stop()
	}
	return r.word()
}

// own reads a token of that kind, and is a text of its own: what is answered shares nothing with the tokens.
func (r *reader) own(kind int) string {
	t := r.ahead()
	if t.Kind != kind {
		r.stop()
		return ""
	}
	r.pass()
	return strings.Clone(t.S)
}

// attribute reads whose an attribute is, and its name.
func (r *reader) attribute() (who, name string) {
	who = r.takesOne("subject", "resource", "action", "env")
	if who == "" {
		r.stop()
	}
	r.needs(".")
	return who, r.name()
}

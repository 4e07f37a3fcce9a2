package print

import (
	"slices"
	"strings"

	"gatepost/api"
	"gatepost/lex"
	"gatepost/syntax"
)

// inner is what the lines of a policy begin with.
const inner = "  "

// page is the lines that are written so far, and how many tokens they have.
type page struct {
	text   strings.Builder
	tokens int
}

// long is whether there is more than a text may have. Nothing more has to be written then.
func (p *page) long() bool {
	return p.text.Len() > api.MaxBytes || p.tokens > api.MaxTokens
}

// line writes a line of tokens.
func (p *page) line(begin string, tokens ...lex.Token) {
	p.tokens += len(tokens)
	p.text.WriteString(begin)
	p.text.WriteString(lex.Join(tokens...))
	p.text.WriteString("\n")
}

// doc writes a document: as much of it as tells that it is too long, if it is.
func (p *page) doc(d *syntax.Doc) {
	for _, f := range d.Facts {
		if p.long() {
			return
		}
		p.fact(f)
	}
	p.line("", append(words("use", d.Use), sign(";"))...)
	for i := range d.Policies {
		if p.long() {
			return
		}
		p.policy(&d.Policies[i])
	}
}

func (p *page) fact(f syntax.Fact) {
	l := slices.Concat(words("fact"), attribute(f.Who, f.Name), words(kindWord(f.Kind)))
	if f.Bag {
		l = append(l, word("bag"))
	}
	p.line("", append(l, sign(";"))...)
}

// kindWord is the word for a kind of values that a fact may have.
func kindWord(kind int) string {
	switch kind {
	case kindTruth:
		return "truth"
	case kindNumber:
		return "number"
	case kindText:
		return "text"
	}
	return "time"
}

func (p *page) policy(y *syntax.Policy) {
	p.line("", append(words("policy", y.Name, "by", y.By, "use", y.Use), sign("{"))...)
	if y.HasFor {
		p.line(inner, slices.Concat(words("for"), written(&y.For), []lex.Token{sign(";")})...)
	}
	for i := range y.Rules {
		if p.long() {
			return
		}
		p.line(inner, rule(&y.Rules[i])...)
	}
	p.line("", sign("}"))
}

// rule is the tokens of a rule.
func rule(u *syntax.Rule) []lex.Token {
	l := words("deny", u.Name)
	if u.Permit {
		l = words("permit", u.Name)
	}
	if u.HasIf {
		l = slices.Concat(l, words("if"), written(&u.If))
	}
	for _, s := range u.Duties {
		l = append(l, word("duty"), text(s))
	}
	for _, s := range u.Advice {
		l = append(l, word("advice"), text(s))
	}
	return append(l, sign(";"))
}

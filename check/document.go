package check

import (
	"slices"

	"gatepost/api"
	"gatepost/syntax"
)

// attribute is whose an attribute is, and its name.
type attribute struct {
	who, name string
}

// saysTwice is whether two facts have one attribute, or two names that have to be different are the same.
func saysTwice(d syntax.Doc) bool {
	if twice(d.Facts, func(f syntax.Fact) attribute { return attribute{f.Who, f.Name} }) {
		return true
	}
	if twice(d.Policies, func(p syntax.Policy) string { return p.Name }) {
		return true
	}
	return slices.ContainsFunc(d.Policies, func(p syntax.Policy) bool {
		return twice(p.Rules, func(u syntax.Rule) string { return u.Name })
	})
}

// twice is whether two of a list have one key.
func twice[T any, K comparable](l []T, key func(T) K) bool {
	had := map[K]struct{}{}
	for _, x := range l {
		k := key(x)
		if _, again := had[k]; again {
			return true
		}
		had[k] = struct{}{}
	}
	return false
}

// usesKnown is whether the document's use, and each policy's, is one.
func usesKnown(d syntax.Doc) bool {
	uses := Uses()
	return slices.Contains(uses, d.Use) && !slices.ContainsFunc(d.Policies, func(p syntax.Policy) bool {
		return !slices.Contains(uses, p.Use)
	})
}

// countRules is how many rules all policies have.
func countRules(d syntax.Doc) int {
	n := 0
	for _, p := range d.Policies {
		n += len(p.Rules)
	}
	return n
}

// policy is what is wrong with a policy's expressions first.
func (t *typer) policy(p *syntax.Policy) api.Errno {
	if p.HasFor {
		if e := t.needsTruth(&p.For); e != api.OK {
			return e
		}
	}
	for i := range p.Rules {
		u := &p.Rules[i]
		if !u.HasIf {
			continue
		}
		if e := t.needsTruth(&u.If); e != api.OK {
			return e
		}
	}
	return api.OK
}

// needsTruth is what is wrong with an expression that has to be a truth's.
func (t *typer) needsTruth(e *syntax.Expr) api.Errno {
	kind, fault := t.whole(e)
	if fault == api.OK && kind != truth {
		return api.ErrType
	}
	return fault
}

package syntax

import "gatepost/api"

// docReader reads documents: it has what reads the expressions within embedded.
type docReader struct {
	exprReader
}

// doc reads facts, a use, and policies.
func (r *docReader) doc() Doc {
	var d Doc
	for r.takes("fact") {
		d.Facts = append(d.Facts, r.fact())
	}
	r.needs("use")
	d.Use = r.word()
	r.needs(";")
	for r.takes("policy") {
		d.Policies = append(d.Policies, r.policy())
	}
	return d
}

// fact reads a fact behind its first word.
func (r *docReader) fact() Fact {
	var f Fact
	f.Who, f.Name = r.attribute()
	f.Kind = r.kind()
	f.Bag = r.takes("bag")
	r.needs(";")
	return f
}

// kind reads the word for a kind of values.
func (r *docReader) kind() int {
	switch r.takesOne("truth", "number", "text", "time") {
	case "truth":
		return 1
	case "number":
		return 2
	case "text":
		return 3
	case "time":
		return 4
	}
	r.stop()
	return 0
}

// policy reads a policy behind its first word.
func (r *docReader) policy() Policy {
	var p Policy
	p.Name = r.name()
	r.needs("by")
	p.By = r.name()
	r.needs("use")
	p.Use = r.word()
	r.needs("{")
	if p.HasFor = r.takes("for"); p.HasFor {
		p.For = r.within()
		r.needs(";")
	}
	for op := r.takesOne("permit", "deny"); op != ""; op = r.takesOne("permit", "deny") {
		p.Rules = append(p.Rules, r.rule(op == "permit"))
	}
	r.needs("}")
	return p
}

// rule reads a rule behind its first word.
func (r *docReader) rule(permit bool) Rule {
	u := Rule{Permit: permit, Name: r.name()}
	if u.HasIf = r.takes("if"); u.HasIf {
		u.If = r.within()
	}
	for op := r.takesOne("duty", "advice"); op != ""; op = r.takesOne("duty", "advice") {
		if op == "duty" {
			u.Duties = append(u.Duties, r.text())
		} else {
			u.Advice = append(u.Advice, r.text())
		}
	}
	r.needs(";")
	return u
}

// within reads an expression of a document. That it is too deep is told here, ahead of all that goes wrong behind it.
func (r *docReader) within() Expr {
	begin := r.at
	e := r.expr()
	if Depth(e) > api.MaxDepth {
		r.fail(api.ErrDepth, begin)
	}
	return e
}

package syntax

import (
	"strconv"

	"veilstone/api"
	"veilstone/lexis"
	"veilstone/terms"
)

// failure is what the parser panics with.
type failure struct{ problem api.Problem }

// fail ends the axiom or concept that is being read.
func fail(t api.Token, e api.Errno) { panic(failure{api.Problem{At: t.At, Code: e}}) }

// parser reads tokens, the last of which is the end.
type parser struct {
	tokens []api.Token
	at     int
}

// problem returns the problem with which the parser panicked; anything else is a syntax error at the next token.
func (p *parser) problem(r any) api.Problem {
	if f, ok := r.(failure); ok {
		return f.problem
	}
	return api.Problem{At: p.next().At, Code: api.ErrSyntax}
}

func (p *parser) next() api.Token { return p.tokens[p.at] }

// take returns the next token and goes behind it; the end is never passed.
func (p *parser) take() api.Token {
	t := p.next()
	if t.Kind != api.TokEnd {
		p.at++
	}
	return t
}

func isSign(t api.Token, text string) bool { return t.Kind == api.TokSign && t.Text == text }
func isWord(t api.Token, text string) bool { return t.Kind == api.TokWord && t.Text == text }

func (p *parser) sign(text string) {
	if t := p.take(); !isSign(t, text) {
		fail(t, api.ErrSyntax)
	}
}

func (p *parser) word(text string) {
	if t := p.take(); !isWord(t, text) {
		fail(t, api.ErrSyntax)
	}
}

func (p *parser) end() {
	if t := p.next(); t.Kind != api.TokEnd {
		fail(t, api.ErrSyntax)
	}
}

// isName reports whether a token is a NAME of the grammar.
func isName(t api.Token) bool { return t.Kind == api.TokWord && !lexis.Keyword(t.Text) }

func (p *parser) name() string {
	t := p.take()
	if !isName(t) {
		fail(t, api.ErrSyntax)
	}
	if terms.CheckName(t.Text) != api.OK || t.Text[0] == '_' {
		fail(t, api.ErrName)
	}
	return t.Text
}

// integer reads an integer that is at least low.
func (p *parser) integer(low int) int {
	t := p.take()
	if t.Kind != api.TokInt {
		fail(t, api.ErrSyntax)
	}
	n, err := strconv.Atoi(t.Text)
	if err != nil || n < low || n > api.MaxNumber {
		fail(t, api.ErrConcept)
	}
	return n
}

// axiom reads an axiom that is not tidied yet.
func (p *parser) axiom() api.Axiom {
	open, private := isWord(p.next(), "open"), isWord(p.next(), "private")
	if open || private {
		p.take()
	}
	a := p.statement()
	a.Open = open || !private && isRoleAxiom(a)
	return a
}

func isRoleAxiom(a api.Axiom) bool {
	return a.Kind == api.RoleSubA || a.Kind == api.ChainA || a.Kind == api.ReflexiveA
}

func (p *parser) statement() api.Axiom {
	statements := map[string]func() api.Axiom{
		"domain": p.domain, "role": p.roleSub, "chain": p.chain,
		"reflexive": p.reflexive, "type": p.typed, "link": p.link,
	}
	if t := p.next(); t.Kind == api.TokWord {
		if read := statements[t.Text]; read != nil {
			p.take()
			return read()
		}
	}
	return p.inclusion()
}

// inclusion reads a statement that begins with a concept.
func (p *parser) inclusion() api.Axiom {
	a := api.Axiom{Left: p.concept()}
	t := p.take()
	switch {
	case isWord(t, "sub"):
		a.Kind = api.SubA
	case isWord(t, "same"):
		a.Kind = api.EquivA
	case isWord(t, "disjoint"):
		a.Kind = api.DisjointA
	default:
		fail(t, api.ErrSyntax)
	}
	a.Right = p.concept()
	return a
}

func (p *parser) domain() api.Axiom {
	role := p.name()
	return api.Axiom{Kind: api.DomainA, Role: role, Right: p.concept()}
}

func (p *parser) roleSub() api.Axiom {
	a := api.Axiom{Kind: api.RoleSubA, Roles: []string{p.name()}}
	p.word("sub")
	a.Role = p.name()
	return a
}

func (p *parser) chain() api.Axiom {
	a := api.Axiom{Kind: api.ChainA, Roles: []string{p.name()}}
	a.Roles = append(a.Roles, p.name())
	for len(a.Roles) < api.MaxChain && isName(p.next()) {
		a.Roles = append(a.Roles, p.name())
	}
	p.word("sub")
	a.Role = p.name()
	return a
}

func (p *parser) reflexive() api.Axiom { return api.Axiom{Kind: api.ReflexiveA, Role: p.name()} }

func (p *parser) typed() api.Axiom {
	a := p.name()
	return api.Axiom{Kind: api.TypeA, A: a, Right: p.concept()}
}

func (p *parser) link() api.Axiom {
	a := p.name()
	role := p.name()
	return api.Axiom{Kind: api.LinkA, A: a, Role: role, B: p.name()}
}

func (p *parser) concept() api.Concept {
	c := p.single()
	if !isWord(p.next(), "and") {
		return c
	}
	c = api.Concept{Kind: api.AndC, Parts: []api.Concept{c}}
	for isWord(p.next(), "and") {
		p.take()
		c.Parts = append(c.Parts, p.single())
	}
	return c
}

func (p *parser) single() api.Concept {
	switch t := p.next(); {
	case isWord(t, "everything"):
		p.take()
		return api.Concept{Kind: api.TopC}
	case isWord(t, "nothing"):
		p.take()
		return api.Concept{Kind: api.BottomC}
	case isWord(t, "some"):
		p.take()
		role := p.name()
		return api.Concept{Kind: api.SomeC, Name: role, Parts: []api.Concept{p.single()}}
	case isSign(t, "{"):
		p.take()
		c := api.Concept{Kind: api.NominalC, Name: p.name()}
		p.sign("}")
		return c
	case isSign(t, "("):
		p.take()
		c := p.concept()
		p.sign(")")
		return c
	}
	return p.named()
}

// named reads a concept with a name, or an interval of a feature.
func (p *parser) named() api.Concept {
	c := api.Concept{Kind: api.NamedC, Name: p.name()}
	if !isWord(p.next(), "in") {
		return c
	}
	p.take()
	c.Kind = api.RangeC
	c.Lo = p.integer(-api.MaxNumber)
	p.word("to")
	c.Hi = p.integer(c.Lo)
	return c
}

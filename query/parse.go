package query

import (
	"strconv"
	"strings"

	"veilstone/api"
	"veilstone/lexis"
)

// failure is what the parser panics with: where it cannot go on.
type failure struct{ at int }

type parser struct {
	tokens []api.Token
	at     int
}

// Parse parses a query; at is where it is wrong.
func Parse(src []byte) (q api.Query, at int, e api.Errno) {
	tokens, bad, e := lexis.Tokens(src)
	if e != api.OK {
		return api.Query{}, 0, e
	}
	if len(bad) > 0 {
		return api.Query{}, bad[0].At, api.ErrToken
	}
	p := &parser{tokens: tokens}
	defer func() {
		if r := recover(); r != nil {
			q, at, e = api.Query{}, p.tokens[p.at].At, api.ErrSyntax
			if f, ok := r.(failure); ok {
				at = f.at
			}
		}
	}()
	q = p.query()
	if e := Check(q, nil); e != api.OK {
		return api.Query{}, 0, e
	}
	return q, 0, api.OK
}

// take returns the next token if it is as required.
func (p *parser) take(fits bool) api.Token {
	t := p.tokens[p.at]
	if !fits {
		panic(failure{t.At})
	}
	p.at++
	return t
}

func (p *parser) is(kind int, text string) bool {
	return p.tokens[p.at].Kind == kind && p.tokens[p.at].Text == text
}

func (p *parser) word(text string) { p.take(p.is(api.TokWord, text)) }
func (p *parser) sign(text string) { p.take(p.is(api.TokSign, text)) }

func (p *parser) name() string {
	t := p.tokens[p.at]
	return p.take(t.Kind == api.TokWord && !lexis.Keyword(t.Text)).Text
}

func (p *parser) integer() int {
	n, _ := strconv.Atoi(p.take(p.tokens[p.at].Kind == api.TokInt).Text)
	return n
}

func (p *parser) query() (q api.Query) {
	p.word("select")
	for p.is(api.TokSign, "?") {
		q.Told = append(q.Told, p.variable())
	}
	p.word("where")
	q.Parts = append(q.Parts, p.part())
	for p.is(api.TokWord, "or") {
		p.word("or")
		q.Parts = append(q.Parts, p.part())
	}
	if t := p.tokens[p.at]; t.Kind != api.TokEnd {
		panic(failure{t.At})
	}
	return q
}

func (p *parser) variable() string {
	p.sign("?")
	t := p.tokens[p.at]
	return "?" + p.take(t.Kind == api.TokWord && isLetter(t.Text[0]) && !strings.Contains(t.Text, ":")).Text
}

func (p *parser) term() string {
	if p.is(api.TokSign, "?") {
		return p.variable()
	}
	return p.name()
}

func (p *parser) part() (x api.Part) {
	x.Atoms = append(x.Atoms, p.atom())
	for p.is(api.TokWord, "and") {
		p.word("and")
		x.Atoms = append(x.Atoms, p.atom())
	}
	return x
}

func (p *parser) atom() api.Atom {
	a := api.Atom{Kind: api.ConceptQ, Name: p.name()}
	p.sign("(")
	a.X = p.term()
	if p.is(api.TokSign, ",") {
		p.sign(",")
		a.Kind, a.Y = api.RoleQ, p.term()
		p.sign(")")
		return a
	}
	p.sign(")")
	if p.is(api.TokWord, "in") {
		p.word("in")
		a.Kind, a.Lo = api.RangeQ, p.integer()
		p.word("to")
		a.Hi = p.integer()
	}
	return a
}

// Print returns the text of a query.
func Print(q api.Query) (b []byte, e api.Errno) {
	if e := Check(q, nil); e != api.OK {
		return nil, e
	}
	var parts []string
	for _, p := range q.Parts {
		var atoms []string
		for _, a := range p.Atoms {
			atoms = append(atoms, atomText(a))
		}
		parts = append(parts, strings.Join(atoms, " and "))
	}
	words := append([]string{"select"}, q.Told...)
	return []byte(strings.Join(words, " ") + " where " + strings.Join(parts, " or ")), api.OK
}

func atomText(a api.Atom) string {
	s := a.Name + "(" + a.X
	if a.Kind == api.RoleQ {
		s += ", " + a.Y
	}
	s += ")"
	if a.Kind == api.RangeQ {
		s += " in " + strconv.Itoa(a.Lo) + " to " + strconv.Itoa(a.Hi)
	}
	return s
}

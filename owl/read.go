package owl

import (
	"strconv"
	"strings"

	"veilstone/api"
	"veilstone/terms"
)

// failure is what the reader panics with.
type failure struct {
	at   int
	code api.Errno
}

// Kinds of tokens.
const (
	signT = iota
	iriT
	stringT
	wordT
	endT
)

// token is a token; the text of an IRI or a string lacks its quotes.
type token struct {
	kind int
	text string
	at   int
}

func (t token) is(kind int, text string) bool { return t.kind == kind && t.text == text }

// reader reads tokens one after the other; what is behind them is not looked at.
type reader struct {
	src      string
	at       int
	prefixes map[string]string // the IRI of each word
	axioms   []api.Axiom
}

func inIRI(b byte) bool { return b >= 33 && b <= 126 && b != '<' && b != '>' && b != '"' }

func inString(b byte) bool { return b >= 32 && b <= 126 && b != '"' }

func isLetter(b byte) bool { return 'a' <= b && b <= 'z' || 'A' <= b && b <= 'Z' }

func inWord(b byte) bool { return isLetter(b) || '0' <= b && b <= '9' || b == '_' || b == ':' }

// skip goes behind blanks and comments.
func (r *reader) skip() {
	for r.at < len(r.src) {
		switch r.src[r.at] {
		case ' ', '\t', '\n', '\r':
			r.at++
		case '#':
			for r.at < len(r.src) && r.src[r.at] != '\n' {
				r.at++
			}
		default:
			return
		}
	}
}

// peek returns the next token and where it ends; it fails if there is none.
func (r *reader) peek() (t token, end int) {
	r.skip()
	at := r.at
	if at == len(r.src) {
		return token{kind: endT, at: at}, at
	}
	switch b := r.src[at]; {
	case b == '(' || b == ')' || b == '=':
		return token{signT, r.src[at : at+1], at}, at + 1
	case strings.HasPrefix(r.src[at:], "^^"):
		return token{signT, "^^", at}, at + 2
	case b == '<':
		return r.quoted(iriT, '>', inIRI)
	case b == '"':
		return r.quoted(stringT, '"', inString)
	case inWord(b):
		end = r.run(at, inWord)
		return token{wordT, r.src[at:end], at}, end
	}
	panic(failure{at, api.ErrOwl})
}

// run returns where the bytes of a class that begin at an offset end.
func (r *reader) run(at int, in func(byte) bool) int {
	for at < len(r.src) && in(r.src[at]) {
		at++
	}
	return at
}

func (r *reader) quoted(kind int, quote byte, in func(byte) bool) (token, int) {
	end := r.run(r.at+1, in)
	if end == len(r.src) || r.src[end] != quote {
		panic(failure{r.at, api.ErrOwl})
	}
	return token{kind, r.src[r.at+1 : end], r.at}, end + 1
}

// wrong fails at a token.
func wrong(t token) { panic(failure{t.at, api.ErrOwl}) }

// take reads a token of a kind.
func (r *reader) take(kind int) token {
	t, end := r.peek()
	if t.kind != kind {
		wrong(t)
	}
	r.at = end
	return t
}

// next reports whether the next token is the given one.
func (r *reader) next(kind int, text string) bool {
	t, _ := r.peek()
	return t.is(kind, text)
}

func (r *reader) sign(text string) {
	if t := r.take(signT); t.text != text {
		wrong(t)
	}
}

func (r *reader) word(text string) {
	if t := r.take(wordT); t.text != text {
		wrong(t)
	}
}

// xsd reads one of some words that begin with "xsd:".
func (r *reader) xsd(words ...string) token {
	t := r.take(wordT)
	for _, w := range words {
		if t.text == w && r.declared("xsd:") {
			return t
		}
	}
	wrong(t)
	return t
}

func (r *reader) declared(prefix string) bool {
	_, ok := r.prefixes[prefix]
	return ok
}

func (r *reader) document() {
	for r.next(wordT, "Prefix") {
		r.prefix()
	}
	t, _ := r.peek()
	r.word("Ontology")
	if !r.declared(":") {
		wrong(t)
	}
	r.sign("(")
	for range 2 {
		if t, _ := r.peek(); t.kind == iriT {
			r.take(iriT)
		}
	}
	list(r, (*reader).item)
	r.sign(")")
	r.take(endT)
}

// list reads arguments of a kind up to a ")", which is not read.
func list[T any](r *reader, read func(*reader) T) (l []T) {
	for !r.next(signT, ")") {
		l = append(l, read(r))
	}
	return l
}

func (r *reader) prefix() {
	r.word("Prefix")
	r.sign("(")
	t := r.take(wordT)
	name := strings.TrimSuffix(t.text, ":")
	if name+":" != t.text || strings.Contains(name, ":") || name != "" && !isLetter(name[0]) || r.declared(t.text) {
		wrong(t)
	}
	r.sign("=")
	iri := r.take(iriT)
	if t.text == "owl:" && iri.text != owlIRI || t.text == "xsd:" && iri.text != xsdIRI {
		wrong(iri)
	}
	r.sign(")")
	r.prefixes[t.text] = iri.text
}

// name reads a name of a vocabulary.
func (r *reader) name() string {
	t := r.take(wordT)
	s, ok := r.named(t)
	if !ok {
		wrong(t)
	}
	return s
}

// named returns the name that a word stands for.
func (r *reader) named(t token) (s string, ok bool) {
	prefix, rest, ok := strings.Cut(t.text, ":")
	if !ok || rest == "" || strings.Contains(rest, ":") || prefix == "owl" || prefix == "xsd" || !r.declared(prefix+":") {
		return "", false
	}
	return strings.TrimPrefix(t.text, ":"), true
}

// notes reads notes and reports whether one of them says that the axiom is open.
func (r *reader) notes() (open bool) {
	for r.next(wordT, "Annotation") {
		r.word("Annotation")
		r.sign("(")
		name := r.name()
		text := r.take(stringT)
		r.sign(")")
		open = open || name == "open" && text.text == "true"
	}
	return open
}

func (r *reader) concept() api.Concept {
	t := r.take(wordT)
	switch t.text {
	case "owl:Thing", "owl:Nothing":
		if !r.declared("owl:") {
			wrong(t)
		}
		if t.text == "owl:Thing" {
			return api.Concept{Kind: api.TopC}
		}
		return api.Concept{Kind: api.BottomC}
	}
	read := map[string]func() api.Concept{
		"ObjectIntersectionOf": r.and, "ObjectSomeValuesFrom": r.some,
		"ObjectOneOf": r.oneOf, "DataSomeValuesFrom": r.dataSome,
	}[t.text]
	if read == nil {
		s, ok := r.named(t)
		if !ok {
			wrong(t)
		}
		return api.Concept{Kind: api.NamedC, Name: s}
	}
	r.sign("(")
	c := read()
	r.sign(")")
	return c
}

// concepts reads two or more concepts, up to a ")".
func (r *reader) concepts() []api.Concept {
	l := []api.Concept{r.concept(), r.concept()}
	return append(l, list(r, (*reader).concept)...)
}

func (r *reader) and() api.Concept { return api.Concept{Kind: api.AndC, Parts: r.concepts()} }

func (r *reader) some() api.Concept {
	role := r.name()
	return api.Concept{Kind: api.SomeC, Name: role, Parts: []api.Concept{r.concept()}}
}

func (r *reader) oneOf() api.Concept { return api.Concept{Kind: api.NominalC, Name: r.name()} }

func (r *reader) dataSome() api.Concept {
	c := api.Concept{Kind: api.RangeC, Name: r.name(), Lo: -api.MaxNumber, Hi: api.MaxNumber}
	if !r.next(wordT, "DatatypeRestriction") {
		r.xsd(integer)
		return c
	}
	r.word("DatatypeRestriction")
	r.sign("(")
	r.xsd(integer)
	first := r.facet(&c, "")
	if !r.next(signT, ")") {
		r.facet(&c, first)
	}
	r.sign(")")
	return c
}

// facet reads one end of an interval, with another word than the given one, which it returns.
func (r *reader) facet(c *api.Concept, other string) string {
	word := r.xsd("xsd:minInclusive", "xsd:maxInclusive")
	if word.text == other {
		wrong(word)
	}
	t := r.take(stringT)
	n, err := strconv.Atoi(t.text)
	if err != nil || strconv.Itoa(n) != t.text || len(strings.TrimPrefix(t.text, "-")) > maxDigits {
		wrong(t)
	}
	r.sign("^^")
	r.xsd(integer)
	if word.text == "xsd:minInclusive" {
		c.Lo = n
	} else {
		c.Hi = n
	}
	return word.text
}

// item reads a declaration or axioms, which it adds. What it returns has no meaning.
func (r *reader) item() struct{} {
	start := r.take(wordT)
	read := map[string]func() []api.Axiom{
		"Declaration": r.declaration, "SubClassOf": r.sub, "EquivalentClasses": r.equivalent,
		"DisjointClasses": r.disjoint, "ObjectPropertyDomain": r.domain, "SubObjectPropertyOf": r.subRole,
		"ReflexiveObjectProperty": r.reflexive, "ClassAssertion": r.typed, "ObjectPropertyAssertion": r.link,
	}[start.text]
	if read == nil {
		wrong(start)
	}
	r.sign("(")
	open := start.text != "Declaration" && r.notes()
	l := read()
	r.sign(")")
	for _, a := range l {
		if e := terms.CheckAxiom(a); e != api.OK {
			panic(failure{start.at, e})
		}
	}
	if len(r.axioms)+len(l) > api.MaxAxioms {
		panic(failure{start.at, api.ErrLimit})
	}
	for _, a := range l {
		a.Open = open
		r.axioms = append(r.axioms, a)
	}
	return struct{}{}
}

func (r *reader) declaration() []api.Axiom {
	switch t := r.take(wordT); t.text {
	case "Class", "ObjectProperty", "DataProperty", "NamedIndividual":
	default:
		wrong(t)
	}
	r.sign("(")
	r.name()
	r.sign(")")
	return nil
}

func (r *reader) sub() []api.Axiom {
	left := r.concept()
	return []api.Axiom{{Kind: api.SubA, Left: left, Right: r.concept()}}
}

func (r *reader) equivalent() (l []api.Axiom) {
	c := r.concepts()
	for i := range len(c) - 1 {
		l = append(l, api.Axiom{Kind: api.EquivA, Left: c[i], Right: c[i+1]})
	}
	return l
}

// disjoint returns all pairs, or enough of them if they are too many: with the first concept, each of the others occurs early.
func (r *reader) disjoint() (l []api.Axiom) {
	c := r.concepts()
	for i := range c {
		for _, d := range c[i+1:] {
			l = append(l, api.Axiom{Kind: api.DisjointA, Left: c[i], Right: d})
		}
		if len(l) > api.MaxAxioms {
			break
		}
	}
	return l
}

func (r *reader) domain() []api.Axiom {
	role := r.name()
	return []api.Axiom{{Kind: api.DomainA, Role: role, Right: r.concept()}}
}

func (r *reader) subRole() []api.Axiom {
	a := api.Axiom{Kind: api.RoleSubA}
	if r.next(wordT, "ObjectPropertyChain") {
		r.word("ObjectPropertyChain")
		r.sign("(")
		a.Kind = api.ChainA
		a.Roles = append(a.Roles, r.name(), r.name())
		a.Roles = append(a.Roles, list(r, (*reader).name)...)
		r.sign(")")
	} else {
		a.Roles = append(a.Roles, r.name())
	}
	a.Role = r.name()
	return []api.Axiom{a}
}

func (r *reader) reflexive() []api.Axiom {
	return []api.Axiom{{Kind: api.ReflexiveA, Role: r.name()}}
}

func (r *reader) typed() []api.Axiom {
	c := r.concept()
	return []api.Axiom{{Kind: api.TypeA, Right: c, A: r.name()}}
}

func (r *reader) link() []api.Axiom {
	role := r.name()
	a := r.name()
	return []api.Axiom{{Kind: api.LinkA, Role: role, A: a, B: r.name()}}
}

// Package sample makes axioms, concepts and queries from texts, for the tests of the other packages. Its functions panic if a text is wrong.
package sample

import (
	"veilstone/api"
	"veilstone/base"
	"veilstone/query"
	"veilstone/syntax"
)

// Axioms parses axioms, each of them followed by a ".".
func Axioms(text string) []api.Axiom {
	l, bad, e := syntax.Document([]byte(text))
	if e != api.OK || len(bad) > 0 {
		panic("not a document: " + text)
	}
	return l
}

// Axiom parses an axiom.
func Axiom(text string) api.Axiom {
	a, _, e := syntax.Axiom([]byte(text))
	if e != api.OK {
		panic("not an axiom: " + text)
	}
	return a
}

// Concept parses a concept.
func Concept(text string) api.Concept {
	c, _, e := syntax.Concept([]byte(text))
	if e != api.OK {
		panic("not a concept: " + text)
	}
	return c
}

// Base makes a base of axioms, each of them followed by a ".".
func Base(text string) api.Base {
	b, e := base.New(Axioms(text))
	if e != api.OK {
		panic("not a base: " + text)
	}
	return b
}

// Query parses a query.
func Query(text string) api.Query {
	q, _, e := query.Parse([]byte(text))
	if e != api.OK {
		panic("not a query: " + text)
	}
	return q
}

// Part parses a part of a query without told variables.
func Part(text string) api.Part { return Query("select where " + text).Parts[0] }

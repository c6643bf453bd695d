// Package match finds the assignments of a part of a query to the nodes of a structure, and tells the genuine ones. Structures and parts must be valid.
package match

import (
	"slices"

	"veilstone/api"
	"veilstone/canon"
)

// Pair is two nodes that a role relates.
type Pair struct{ A, B string }

// about is a node or a role, and what is asked about it.
type about struct{ of, name string }

// Index finds the facts of a structure quickly.
type Index struct {
	Nodes    []string
	isNode   map[string]bool
	inNamed  map[string][]string // the nodes in a concept
	types    map[about]bool
	ranges   map[about][]api.Interval
	features map[string][]string // the nodes with a feature
	pairs    map[string][]Pair
	related  map[string]map[Pair]bool
	next     map[about][]string // the nodes to which a role leads
	before   map[about][]string
	direct   []api.Fact
	above    map[string][]string
}

// New returns the index of a structure.
func New(m api.Model) *Index {
	x := &Index{
		Nodes: m.Nodes, isNode: map[string]bool{}, inNamed: map[string][]string{}, types: map[about]bool{},
		ranges: map[about][]api.Interval{}, features: map[string][]string{}, pairs: map[string][]Pair{},
		related: map[string]map[Pair]bool{}, next: map[about][]string{}, before: map[about][]string{},
		direct: m.Direct, above: map[string][]string{},
	}
	for _, n := range m.Nodes {
		x.isNode[n] = true
	}
	for _, f := range m.Types {
		x.types[about{f.A, f.B}] = true
		x.inNamed[f.B] = append(x.inNamed[f.B], f.A)
	}
	for _, f := range m.Ranges {
		k := about{f.A, f.R}
		if len(x.ranges[k]) == 0 {
			x.features[f.R] = append(x.features[f.R], f.A)
		}
		x.ranges[k] = append(x.ranges[k], api.Interval{Lo: f.Lo, Hi: f.Hi})
	}
	for _, f := range m.Roles {
		x.above[f.A] = append(x.above[f.A], f.B)
	}
	x.addLinks(m)
	return x
}

// addLinks adds the pairs of each role.
func (x *Index) addLinks(m api.Model) {
	for _, f := range m.Links {
		x.relate(f.R, Pair{f.A, f.B})
	}
	for _, f := range m.Direct {
		if !canon.Nameless(f.A) && !canon.Nameless(f.B) {
			continue // what holds between individuals is in Links
		}
		x.relate(f.R, Pair{f.A, f.B})
		for _, t := range x.above[f.R] {
			x.relate(t, Pair{f.A, f.B})
		}
	}
}

func (x *Index) relate(role string, p Pair) {
	if x.related[role] == nil {
		x.related[role] = map[Pair]bool{}
	}
	if x.related[role][p] {
		return
	}
	x.related[role][p] = true
	x.pairs[role] = append(x.pairs[role], p)
	x.next[about{p.A, role}] = append(x.next[about{p.A, role}], p.B)
	x.before[about{p.B, role}] = append(x.before[about{p.B, role}], p.A)
}

// IsNode reports whether there is a node.
func (x *Index) IsNode(n string) bool { return x.isNode[n] }

// Pairs returns the pairs of nodes that a role relates.
func (x *Index) Pairs(role string) []Pair { return x.pairs[role] }

// Role reports what canon.Role reports.
func (x *Index) Role(a, role, b string) bool { return x.related[role][Pair{a, b}] }

// Next returns the nodes that a role relates a node to.
func (x *Index) Next(a, role string) []string { return x.next[about{a, role}] }

// Before returns the nodes that a role relates to a node.
func (x *Index) Before(b, role string) []string { return x.before[about{b, role}] }

// Single reports whether a node satisfies a ConceptQ or a RangeQ.
func (x *Index) Single(a api.Atom, node string) bool {
	if a.Kind == api.ConceptQ {
		return x.types[about{node, a.Name}]
	}
	return slices.ContainsFunc(x.ranges[about{node, a.Name}], func(i api.Interval) bool {
		return a.Lo <= i.Lo && i.Hi <= a.Hi
	})
}

// Singles returns the nodes that satisfy a ConceptQ or a RangeQ.
func (x *Index) Singles(a api.Atom) (l []string) {
	if a.Kind == api.ConceptQ {
		return x.inNamed[a.Name]
	}
	for _, n := range x.features[a.Name] {
		if x.Single(a, n) {
			l = append(l, n)
		}
	}
	return l
}

// Contained reports whether a role is contained in another one.
func (x *Index) Contained(r, t string) bool { return r == t || slices.Contains(x.above[r], t) }

package canon

import (
	"cmp"
	"slices"
	"strings"

	"veilstone/api"
	"veilstone/normal"
	"veilstone/roles"
	"veilstone/saturate"
	"veilstone/terms"
)

// compareNodes orders nodes: individuals first.
func compareNodes(a, b string) int {
	rank := func(n string) int {
		if Nameless(n) {
			return 1
		}
		return 0
	}
	return cmp.Or(cmp.Compare(rank(a), rank(b)), strings.Compare(a, b))
}

func compareFacts(f, g api.Fact) int {
	return cmp.Or(cmp.Compare(f.Kind, g.Kind), strings.Compare(f.A, g.A), strings.Compare(f.B, g.B),
		strings.Compare(f.R, g.R), cmp.Compare(f.Lo, g.Lo), cmp.Compare(f.Hi, g.Hi))
}

// sorted sorts a list and drops repetitions.
func sorted[T comparable](l []T, compare func(T, T) int) []T {
	slices.SortFunc(l, compare)
	return slices.Compact(l)
}

// Build builds the structure of axioms.
func Build(l []api.Axiom) (m api.Model, e api.Errno) {
	for _, a := range l {
		if e := terms.CheckAxiom(a); e != api.OK {
			return api.Model{}, e
		}
	}
	if _, e := roles.Check(l); e != api.OK {
		return api.Model{}, e
	}
	p, e := normal.Pieces(l)
	if e != api.OK {
		return api.Model{}, e
	}
	c, e := saturate.All(p, api.MaxBudget)
	if e != api.OK {
		return api.Model{}, e
	}
	b := newBuilder(p, c)
	b.reach()
	m = b.model(c)
	m.Roles, e = inclusions(l)
	if e != api.OK {
		return api.Model{}, e
	}
	return m, api.OK
}

// key says which pieces are looked for: those of a kind whose A is an atom.
type key struct {
	kind int
	atom string
}

// builder finds the nodes and the direct links.
type builder struct {
	pieces map[key][]api.Piece
	above  map[string][]string
	nodes  map[string]bool
	list   []string
	direct []api.Fact
}

func newBuilder(p []api.Piece, c api.Closure) *builder {
	b := &builder{pieces: map[key][]api.Piece{}, above: map[string][]string{}, nodes: map[string]bool{}}
	for _, x := range p {
		k := key{x.Kind, x.A}
		b.pieces[k] = append(b.pieces[k], x)
	}
	for _, f := range c.Facts {
		if f.Kind == api.SubF {
			b.above[f.A] = append(b.above[f.A], f.B)
		}
	}
	for _, a := range c.Atoms {
		if !Nameless(a) {
			b.add(a)
		}
	}
	return b
}

func (b *builder) add(node string) {
	if !b.nodes[node] {
		b.nodes[node] = true
		b.list = append(b.list, node)
	}
}

// reach adds the direct links of all nodes, and the nodes to which they lead.
func (b *builder) reach() {
nodes:
	for next := 0; next < len(b.list); next++ {
		a := b.list[next]
		if len(b.above[a]) == 0 {
			continue nodes
		}
		for _, c := range b.above[a] {
			for _, x := range b.pieces[key{api.SomeP, c}] {
				b.direct = append(b.direct, api.Fact{Kind: api.LinkF, A: a, R: x.R, B: x.C})
				b.add(x.C)
			}
		}
	}
}

// model returns the structure, without the inclusions of roles.
func (b *builder) model(c api.Closure) (m api.Model) {
	m.Nodes = sorted(b.list, compareNodes)
	m.Direct = sorted(b.direct, compareFacts)
	for _, f := range c.Facts {
		if !b.nodes[f.A] {
			continue
		}
		switch f.Kind {
		case api.SubF:
			m.Types = append(m.Types, f)
		case api.LinkF:
			if !Nameless(f.A) && !Nameless(f.B) {
				m.Links = append(m.Links, f)
			}
		case api.RangeF:
			m.Ranges = append(m.Ranges, f)
		}
	}
	return m
}

// inclusions returns the inclusions of the roles of axioms.
func inclusions(l []api.Axiom) (facts []api.Fact, e api.Errno) {
	n, e := terms.Vocabulary(l)
	if e != api.OK {
		return nil, e
	}
	var about []api.Axiom
	for _, a := range l {
		if a.Kind == api.RoleSubA {
			about = append(about, a)
		}
	}
	for _, r := range n.Roles {
		above, e := roles.Above(about, r)
		if e != api.OK {
			return nil, e
		}
		for _, t := range above {
			facts = append(facts, api.Fact{Kind: api.SubF, A: r, B: t})
		}
	}
	return sorted(facts, compareFacts), api.OK
}

package normal

import (
	"veilstone/api"
	"veilstone/terms"
)

// collector collects pieces with the same From, each once.
type collector struct {
	from   int
	pieces []api.Piece
	seen   map[api.Piece]bool
}

func newCollector(from int) *collector { return &collector{from: from, seen: map[api.Piece]bool{}} }

func (c *collector) add(l ...api.Piece) {
	for _, p := range l {
		p.From = c.from
		if !c.seen[p] {
			c.seen[p] = true
			c.pieces = append(c.pieces, p)
		}
	}
}

func subP(a, c string) api.Piece { return api.Piece{Kind: api.SubP, A: a, C: c} }

// left adds pieces that put everything in a concept into its atom.
func (c *collector) left(concept api.Concept) {
	var visit func(x api.Concept)
	visit = func(x api.Concept) {
		for _, p := range x.Parts {
			visit(p)
		}
		switch x.Kind {
		case api.AndC:
			first := atom(x.Parts[0])
			for i := 2; i <= len(x.Parts); i++ {
				whole := atom(api.Concept{Kind: api.AndC, Parts: x.Parts[:i]})
				c.add(api.Piece{Kind: api.AndP, A: first, B: atom(x.Parts[i-1]), C: whole})
				first = whole
			}
		case api.SomeC:
			c.add(api.Piece{Kind: api.FillP, R: x.Name, A: atom(x.Parts[0]), C: atom(x)})
		case api.RangeC:
			c.add(api.Piece{Kind: api.OutP, R: x.Name, Lo: x.Lo, Hi: x.Hi, C: atom(x)})
		}
	}
	visit(concept)
}

// right adds pieces that say what holds of everything in the atom of a concept.
func (c *collector) right(concept api.Concept) {
	var visit func(x api.Concept)
	visit = func(x api.Concept) {
		switch x.Kind {
		case api.AndC:
			for _, p := range x.Parts {
				c.add(subP(atom(x), atom(p)))
				visit(p)
			}
		case api.SomeC:
			c.add(api.Piece{Kind: api.SomeP, A: atom(x), R: x.Name, C: atom(x.Parts[0])})
			visit(x.Parts[0])
		case api.RangeC:
			c.add(api.Piece{Kind: api.InP, A: atom(x), R: x.Name, Lo: x.Lo, Hi: x.Hi})
		}
	}
	visit(concept)
}

// axiomPieces returns the pieces of a valid axiom.
func axiomPieces(a api.Axiom, from int) []api.Piece {
	c := newCollector(from)
	switch a.Kind {
	case api.SubA:
		c.include(a.Left, a.Right)
	case api.EquivA:
		c.include(a.Left, a.Right)
		c.include(a.Right, a.Left)
	case api.DisjointA:
		c.left(a.Left)
		c.left(a.Right)
		c.add(api.Piece{Kind: api.AndP, A: atom(a.Left), B: atom(a.Right), C: bottomAtom})
	case api.DomainA:
		c.right(a.Right)
		c.add(api.Piece{Kind: api.FillP, R: a.Role, A: topAtom, C: atom(a.Right)})
	case api.RoleSubA:
		c.add(api.Piece{Kind: api.RoleP, R: a.Roles[0], T: a.Role})
	case api.ChainA:
		c.chain(a)
	case api.ReflexiveA:
		c.add(api.Piece{Kind: api.LoopP, R: a.Role})
	case api.TypeA:
		c.right(a.Right)
		c.add(subP(individual(a.A), atom(a.Right)))
	case api.LinkA:
		c.add(api.Piece{Kind: api.SomeP, A: individual(a.A), R: a.Role, C: individual(a.B)})
	}
	return c.pieces
}

// include adds the pieces of an inclusion.
func (c *collector) include(left, right api.Concept) {
	c.left(left)
	c.right(right)
	c.add(subP(atom(left), atom(right)))
}

// chain adds the pieces of a chain, with names for its beginnings.
func (c *collector) chain(a api.Axiom) {
	first := a.Roles[0]
	for i, r := range a.Roles[1:] {
		target := a.Role
		if i+2 < len(a.Roles) {
			target = first + "." + r
		}
		c.add(api.Piece{Kind: api.ChainP, R: first, S: r, T: target})
		first = target
	}
}

// Goal returns the pieces that define the concepts of an axiom, and the facts that must be derived.
func Goal(a api.Axiom) (p []api.Piece, f []api.Fact, e api.Errno) {
	if e := terms.CheckAxiom(a); e != api.OK {
		return nil, nil, e
	}
	c := newCollector(-1)
	switch a.Kind {
	case api.SubA, api.EquivA:
		f = c.inclusionGoal(a)
	case api.DisjointA:
		f = c.disjointGoal(a)
	case api.DomainA:
		y := "<some " + a.Role + " everything>"
		c.mention(y, atom(a.Right))
		c.add(api.Piece{Kind: api.SomeP, A: y, R: a.Role, C: topAtom})
		c.left(a.Right)
		f = []api.Fact{subF(y, atom(a.Right))}
	case api.TypeA:
		c.mention(individual(a.A), atom(a.Right))
		c.left(a.Right)
		f = []api.Fact{subF(individual(a.A), atom(a.Right))}
	case api.LinkA:
		c.mention(individual(a.A), individual(a.B))
		f = []api.Fact{{Kind: api.LinkF, A: individual(a.A), R: a.Role, B: individual(a.B)}}
	default:
		return nil, nil, api.ErrAxiom
	}
	return c.pieces, f, api.OK
}

func subF(a, b string) api.Fact { return api.Fact{Kind: api.SubF, A: a, B: b} }

// mention makes the rules apply to two atoms.
func (c *collector) mention(a, b string) { c.add(subP(a, topAtom), subP(b, topAtom)) }

func (c *collector) inclusionGoal(a api.Axiom) []api.Fact {
	l, r := atom(a.Left), atom(a.Right)
	c.mention(l, r)
	c.right(a.Left)
	c.left(a.Right)
	if a.Kind == api.SubA {
		return []api.Fact{subF(l, r)}
	}
	c.right(a.Right)
	c.left(a.Left)
	return []api.Fact{subF(l, r), subF(r, l)}
}

func (c *collector) disjointGoal(a api.Axiom) []api.Fact {
	// Both concepts together may be too large for the printer.
	x := "<" + operand(a.Left) + " and " + operand(a.Right) + ">"
	c.mention(x, bottomAtom)
	c.add(subP(x, atom(a.Left)))
	c.right(a.Left)
	c.add(subP(x, atom(a.Right)))
	c.right(a.Right)
	return []api.Fact{subF(x, bottomAtom)}
}

package vault

import (
	"slices"
	"strings"

	"veilstone/api"
	"veilstone/carry"
	"veilstone/mapping"
	"veilstone/objects"
	"veilstone/terms"
)

func id(b api.Base) api.Digest {
	d, e := objects.ID(b)
	must(e)
	return d
}

func (c *change) align(o api.Op) {
	head := c.head(o.Name)
	a := o.Alignment
	taken := slices.ContainsFunc(c.State.Alignments, func(x api.Alignment) bool { return x.Name == a.Name })
	require(!taken, api.ErrTaken)
	published := c.versions(o.Other)
	require(len(published) > 0, api.ErrVersion)
	last := published[len(published)-1]
	require(a.Base == id(last.Base), api.ErrStale)
	if n, e := terms.Vocabulary(a.Axioms); e == api.OK {
		require(!hasOther(n, o.Other), api.ErrMapping)
	}
	b, e := mapping.Accept(c.base(head), last.Base, a)
	must(e)
	c.commit(b, o.Name, o.Message, []int{head}, a)
}

func allNames(n api.Names) []string {
	return slices.Concat(n.Concepts, n.Roles, n.Features, n.Individuals)
}

// hasOther reports whether a vocabulary has a foreign name of another vocabulary than the given one.
func hasOther(n api.Names, vocabulary string) bool {
	return slices.ContainsFunc(allNames(n), func(name string) bool {
		return strings.Contains(name, ":") && !strings.HasPrefix(name, vocabulary+":")
	})
}

// prefix returns the vocabulary of the first foreign name of mappings.
func prefix(maps []api.Axiom) string {
	n, e := terms.Vocabulary(maps)
	require(e == api.OK, api.ErrMapping)
	for _, name := range slices.Concat(n.Concepts, n.Roles) {
		if p, _, foreign := strings.Cut(name, ":"); foreign {
			return p
		}
	}
	panic(failure{api.ErrMapping})
}

// ownPart returns the axioms of a base in which no name of a vocabulary occurs.
func ownPart(b api.Base, p string) api.Base {
	return without(b, func(_ int, a api.Axiom) bool {
		n, e := terms.Vocabulary([]api.Axiom{a})
		must(e)
		return slices.ContainsFunc(allNames(n), func(name string) bool { return strings.HasPrefix(name, p+":") })
	})
}

func (c *change) carry(o api.Op) {
	head := c.head(o.Name)
	at := slices.IndexFunc(c.State.Alignments, func(x api.Alignment) bool { return x.Name == o.Other })
	require(at >= 0, api.ErrVersion)
	a := c.State.Alignments[at]
	p := prefix(a.Axioms)
	published := c.versions(p)
	first := slices.IndexFunc(published, func(x api.Other) bool { return id(x.Base) == a.Base })
	require(first >= 0, api.ErrStale)
	last := published[len(published)-1]
	renamings, e := carry.Since(c.State.Others, p, published[first].No)
	must(e)
	maps, e := carry.Axioms(a, renamings)
	must(e)
	own := ownPart(c.base(head), p)
	kept, _, e := carry.Carry(own, last.Base, maps)
	must(e)
	require(len(kept) > 0, api.ErrMapping)
	var chosen []api.Axiom
	for _, i := range kept {
		chosen = append(chosen, maps[i])
	}
	b, e := mapping.Join(own, last.Base, chosen)
	must(e)
	carried := api.Alignment{Name: a.Name, Base: id(last.Base), Axioms: maps}
	c.commit(b, o.Name, o.Message, []int{head}, carried)
}

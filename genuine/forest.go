package genuine

import (
	"slices"

	"veilstone/api"
	"veilstone/canon"
	"veilstone/match"
)

// Holds reports whether a part holds in a part of the forest, with given nodes for some of its terms.
func Holds(m api.Model, f api.Forest, p api.Part, binds []api.Bind) (ok bool, e api.Errno) {
	if e := check(m, p); e != api.OK {
		return false, e
	}
	if !isForest(m, f) {
		return false, api.ErrArg
	}
	s := &search{index: match.New(m), forest: f, atoms: p.Atoms, fixed: map[string]string{}, at: map[string]int{}}
	terms := match.Terms(p)
	for i, b := range binds {
		_, known := slices.BinarySearch(terms, b.Term)
		if i > 0 && binds[i-1].Term >= b.Term || !known || !s.index.IsNode(b.Node) {
			return false, api.ErrArg
		}
		s.fixed[b.Term] = b.Node
	}
	for _, t := range terms {
		n, individual := match.Individual(t)
		if individual && s.fixed[t] != "" && s.fixed[t] != n {
			return false, api.OK
		}
		if individual {
			s.fixed[t] = n
		}
	}
	s.prepare()
	return s.place(p.Atoms), api.OK
}

// isForest reports whether a forest is a part of the forest of a structure.
func isForest(m api.Model, f api.Forest) bool {
	if len(f.Parents) != len(f.Nodes) || len(f.Roles) != len(f.Nodes) {
		return false
	}
	direct := map[api.Fact]bool{}
	for _, x := range m.Direct {
		direct[x] = true
	}
	nodes := map[string]bool{}
	for _, n := range m.Nodes {
		nodes[n] = true
	}
	for i, n := range f.Nodes {
		parent := f.Parents[i]
		if !canon.Nameless(n) {
			if !nodes[n] || parent != -1 || f.Roles[i] != "" {
				return false
			}
			nodes[n] = false // it cannot occur again
			continue
		}
		if parent < 0 || parent >= i || !direct[api.Fact{Kind: api.LinkF, A: f.Nodes[parent], R: f.Roles[i], B: n}] {
			return false
		}
	}
	return true
}

// search looks for elements of a forest for the terms of a part.
type search struct {
	index    *match.Index
	forest   api.Forest
	atoms    []api.Atom
	fixed    map[string]string // the nodes of some terms
	at       map[string]int    // the elements of the terms that have been placed
	of       map[string][]int  // the elements of each node
	children map[int][]int
}

func (s *search) prepare() {
	var all []int
	for i := range s.forest.Nodes {
		all = append(all, i)
	}
	s.of = group(all, func(i int) string { return s.forest.Nodes[i] })
	s.children = group(all, func(i int) int { return s.forest.Parents[i] })
}

// place finds elements for the terms of the remaining atoms, first for one of which a term is placed.
func (s *search) place(atoms []api.Atom) bool {
	if len(atoms) == 0 {
		return true
	}
	next := slices.IndexFunc(atoms, func(a api.Atom) bool {
		_, x := s.at[a.X]
		_, y := s.at[a.Y]
		return x || y && a.Kind == api.RoleQ
	})
	next = max(next, 0)
	a := atoms[next]
	rest := slices.Delete(slices.Clone(atoms), next, next+1)
	if a.Kind != api.RoleQ {
		return s.try(a.X, s.anywhere(a.X), func() bool { return s.index.Single(a, s.node(a.X)) && s.place(rest) })
	}
	// Where Y is placed on a nameless element, X is its parent.
	if i, placed := s.at[a.Y]; placed {
		candidates := s.anywhere(a.X)
		if canon.Nameless(s.forest.Nodes[i]) {
			candidates = s.forest.Parents[i : i+1]
		}
		return s.try(a.X, candidates, func() bool { return s.related(a) && s.place(rest) })
	}
	return s.try(a.X, s.anywhere(a.X), func() bool {
		return s.try(a.Y, s.behind(a), func() bool { return s.related(a) && s.place(rest) })
	})
}

func (s *search) node(term string) string { return s.forest.Nodes[s.at[term]] }

// try places a term on one of some elements, as far as its node allows it, such that the rest succeeds.
func (s *search) try(term string, candidates []int, rest func() bool) bool {
	if i, placed := s.at[term]; placed {
		return slices.Contains(candidates, i) && rest()
	}
	for _, i := range candidates {
		if n := s.fixed[term]; n != "" && n != s.forest.Nodes[i] {
			continue
		}
		s.at[term] = i
		if rest() {
			return true
		}
		delete(s.at, term)
	}
	return false
}

// anywhere returns the elements on which a term can be placed.
func (s *search) anywhere(term string) (l []int) {
	if i, placed := s.at[term]; placed {
		return []int{i}
	}
	if n := s.fixed[term]; n != "" {
		return s.of[n]
	}
	for i := range s.forest.Nodes {
		l = append(l, i)
	}
	return l
}

// behind returns the elements on which Y of a RoleQ can be placed whose X is placed: children and individuals.
func (s *search) behind(a api.Atom) (l []int) {
	l = slices.Clone(s.children[s.at[a.X]])
	for _, n := range s.index.Next(s.node(a.X), a.Name) {
		if !canon.Nameless(n) {
			l = append(l, s.of[n]...)
		}
	}
	return l
}

// related reports whether a RoleQ whose terms are placed is satisfied.
func (s *search) related(a api.Atom) bool {
	x, y := s.at[a.X], s.at[a.Y]
	if !canon.Nameless(s.forest.Nodes[y]) {
		return s.index.Role(s.node(a.X), a.Name, s.node(a.Y))
	}
	return s.forest.Parents[y] == x && s.index.Contained(s.forest.Roles[y], a.Name)
}

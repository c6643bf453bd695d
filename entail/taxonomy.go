package entail

import (
	"iter"
	"slices"

	"veilstone/api"
	"veilstone/base"
	"veilstone/terms"
)

// order says which names are below which, by the inclusions of a closure.
type order struct {
	names []string
	in    map[[2]string]bool
}

func newOrder(c api.Closure, names []string) *order {
	o := &order{names: names, in: map[[2]string]bool{}}
	for _, f := range c.Facts {
		if f.Kind == api.SubF {
			o.in[[2]string{f.A, f.B}] = true
		}
	}
	return o
}

func (o *order) below(a, b string) bool {
	return a == b || a == bottomAtom || b == topAtom || o.in[[2]string{a, b}] || o.in[[2]string{a, bottomAtom}]
}

// over enumerates the names that a name is below.
func (o *order) over(a string) iter.Seq[string] {
	return func(yield func(string) bool) {
		for _, b := range o.names {
			if o.below(a, b) && !yield(b) {
				return
			}
		}
	}
}

// classes divides a list into the classes of an equivalence; in each of them and among their first elements the order is kept.
func classes[T comparable](l []T, equivalent func(x T) iter.Seq[T]) (out [][]T) {
	seen := map[T]bool{}
	for _, x := range l {
		if seen[x] {
			continue
		}
		var class []T
		for y := range equivalent(x) {
			seen[y] = true
			class = append(class, y)
		}
		out = append(out, class)
	}
	return out
}

// Taxonomy returns the classes of equivalent names and what is directly above them.
func Taxonomy(b api.Base) (l []api.Class, e api.Errno) {
	if e := base.Check(b); e != api.OK {
		return nil, e
	}
	n, e := terms.Vocabulary(b.Axioms)
	if e != api.OK {
		return nil, e
	}
	c, e := closure(b)
	if e != api.OK {
		return nil, e
	}
	names := append([]string{bottomAtom, topAtom}, n.Concepts...)
	slices.Sort(names)
	o := newOrder(c, names)
	groups := classes(names, func(x string) iter.Seq[string] {
		return func(yield func(string) bool) {
			for y := range o.over(x) {
				if o.below(y, x) && !yield(y) {
					return
				}
			}
		}
	})
	for i, group := range groups {
		l = append(l, api.Class{Names: group, Above: o.direct(groups, i)})
	}
	return l, api.OK
}

// direct returns the classes that are above a class without another one in between.
func (o *order) direct(groups [][]string, i int) (above []int) {
	var all []int
	for k, group := range groups {
		if k != i && o.below(groups[i][0], group[0]) {
			all = append(all, k)
		}
	}
	for _, k := range all {
		between := slices.ContainsFunc(all, func(m int) bool {
			return m != k && o.below(groups[m][0], groups[k][0])
		})
		if !between {
			above = append(above, k)
		}
	}
	return above
}

package query

import (
	"cmp"
	"slices"
	"strings"

	"veilstone/api"
)

// Ranks of terms: told variables are first, then the other variables, then individuals.
const (
	otherRank      = 10
	individualRank = 100
)

// ranked is an atom in which numbers in the same order stand for names and terms.
type ranked struct {
	kind, x, y, lo, hi int
}

func compareRanked(a, b ranked) int {
	return cmp.Or(cmp.Compare(a.kind, b.kind), cmp.Compare(a.x, b.x), cmp.Compare(a.y, b.y), cmp.Compare(a.lo, b.lo), cmp.Compare(a.hi, b.hi))
}

// renamePart gives the variables of a valid part their canonical names.
func renamePart(p api.Part, told map[string]string) api.Part {
	p = Tidy(p) // so that no atom occurs twice, whatever the names are
	var free []string
	for _, v := range Variables(p) {
		if told[v] == "" {
			free = append(free, v)
		}
	}
	names := map[string]string{}
	for v, name := range told {
		names[v] = name
	}
	for i, n := range leastOrder(p, told, free) {
		names[free[i]] = "?v" + string(rune('1'+n))
	}
	return Tidy(substitute(p, names))
}

// leastOrder returns the numbers, from 0 on, of the free variables that lead to the least list of atoms.
func leastOrder(p api.Part, told map[string]string, free []string) (best []int) {
	ranks := rank(p, told, free)
	numbers := slices.Repeat([]int{-1}, len(free))
	var least []ranked
	l := make([]ranked, len(ranks))
	// lowest makes the list in which all variables without a number have the given one. No list with greater numbers in their place is less.
	lowest := func(number int) {
		for i, a := range ranks {
			l[i] = a
			for _, t := range [2]*int{&l[i].x, &l[i].y} {
				if *t < otherRank || *t >= individualRank {
					continue
				}
				if n := numbers[*t-otherRank]; n >= 0 {
					*t = otherRank + n
				} else {
					*t = otherRank + number
				}
			}
		}
		slices.SortFunc(l, compareRanked)
	}
	var distribute func(n int)
	distribute = func(n int) {
		if n == len(free) {
			lowest(n)
			least, best = append(least[:0], l...), slices.Clone(numbers)
			return
		}
		for i := range numbers {
			if numbers[i] >= 0 {
				continue
			}
			numbers[i] = n
			lowest(n + 1)
			if best == nil || slices.CompareFunc(l, least, compareRanked) < 0 {
				distribute(n + 1)
			}
			numbers[i] = -1
		}
	}
	distribute(0)
	return best
}

// rank returns the atoms of a part with numbers in the order of names and terms; the i-th free variable has the rank otherRank + i.
func rank(p api.Part, told map[string]string, free []string) (l []ranked) {
	var kinds, individuals []string
	kind := func(a api.Atom) string { return string(rune(a.Kind)) + a.Name }
	for _, a := range p.Atoms {
		kinds = append(kinds, kind(a))
		individuals = append(individuals, a.X, a.Y)
	}
	slices.Sort(kinds)
	slices.Sort(individuals)
	term := func(t string) int {
		switch {
		case t == "":
			return -1
		case told[t] != "":
			return int(told[t][2] - '0')
		case strings.HasPrefix(t, "?"):
			return otherRank + slices.Index(free, t)
		}
		at, _ := slices.BinarySearch(individuals, t)
		return individualRank + at
	}
	for _, a := range p.Atoms {
		at, _ := slices.BinarySearch(kinds, kind(a))
		l = append(l, ranked{at, term(a.X), term(a.Y), a.Lo, a.Hi})
	}
	return l
}

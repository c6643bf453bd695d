package hitting

import (
	"iter"
	"slices"

	"veilstone/api"
)

// Begin returns the search in which nothing is known.
func Begin() (s api.Search) { return api.Search{Open: [][]int{nil}} }

// Next returns the elements that are left out by the first open branch.
func Next(s api.Search) (out []int, ok bool) {
	if len(s.Open) == 0 {
		return nil, false
	}
	return s.Open[0], true
}

// Check validates a search.
func Check(s api.Search) (e api.Errno) {
	if !areSets(s.Found) || !areSets(s.Open) || len(s.Found) > api.MaxSets {
		return api.ErrArg
	}
	for i, x := range s.Found {
		if i > 0 && compareSets(s.Found[i-1], x) >= 0 || slices.ContainsFunc(s.Found[:i], func(y []int) bool { return isSubset(y, x) }) {
			return api.ErrArg
		}
	}
	seen := map[string]bool{}
	for i, x := range s.Open {
		if seen[key(x)] || i > 0 && len(x) < len(s.Open[i-1]) || len(x) > len(s.Open[0])+1 {
			return api.ErrArg
		}
		seen[key(x)] = true
	}
	if s.Spent < 0 || s.Spent > api.MaxBudget || s.Done != (len(s.Open) == 0) {
		return api.ErrArg
	}
	return api.OK
}

// branches enumerates the branches that leave out an element of a set in addition.
func branches(out, set []int) iter.Seq[[]int] {
	return func(yield func([]int) bool) {
		for _, n := range set {
			branch := append(slices.Clone(out), n)
			slices.Sort(branch)
			if !yield(branch) {
				return
			}
		}
	}
}

// Give continues a search with an answer of the oracle.
func Give(s api.Search, set []int, none bool) (x api.Search, e api.Errno) {
	if e := Check(s); e != api.OK {
		return api.Search{}, e
	}
	if len(s.Open) == 0 || none && len(set) > 0 {
		return api.Search{}, api.ErrArg
	}
	x = s
	x.Open = slices.Clone(s.Open[1:])
	if !none {
		if !fits(s, set) {
			return api.Search{}, api.ErrArg
		}
		at, known := slices.BinarySearchFunc(s.Found, set, compareSets[int])
		if !known && len(s.Found) >= api.MaxSets {
			return api.Search{}, api.ErrLimit
		}
		if !known {
			x.Found = slices.Insert(slices.Clone(s.Found), at, set)
		}
		x.Open = withBranches(x.Open, s.Open[0], set)
	}
	x.Spent++
	x.Done = len(x.Open) == 0
	return x, api.OK
}

// fits reports whether a set can be an answer for the first open branch.
func fits(s api.Search, set []int) bool {
	if !isSet(set) || Hits([][]int{set}, s.Open[0]) {
		return false
	}
	return !slices.ContainsFunc(s.Found, func(y []int) bool {
		return len(y) != len(set) && (isSubset(y, set) || isSubset(set, y))
	})
}

// withBranches appends the branches for a set, as far as they are new.
func withBranches(open [][]int, out, set []int) [][]int {
	seen := map[string]bool{}
	for _, x := range open {
		seen[key(x)] = true
	}
	for b := range branches(out, set) {
		if !seen[key(b)] {
			seen[key(b)] = true
			open = append(open, b)
		}
	}
	return open
}

package smallest

import (
	"slices"

	"veilstone/api"
)

// tree searches for the minimal hitting sets of its sets. For each of them it asks for a further set that it does not hit.
type tree struct {
	further   func(chosen []int) (set []int, ok bool, e api.Errno)
	full      func() bool // whether the search may end
	sets      [][]int
	of        map[int][]int // the sets of each element
	forbidden map[int]bool
	chosen    []int
	hits      []int       // how many chosen elements hit each set
	only      map[int]int // how many sets each chosen element hits alone
}

func newTree() *tree {
	return &tree{of: map[int][]int{}, forbidden: map[int]bool{}, only: map[int]int{}}
}

// add adds a set that no chosen element hits.
func (t *tree) add(set []int) {
	for _, n := range set {
		t.of[n] = append(t.of[n], len(t.sets))
	}
	t.sets = append(t.sets, set)
	t.hits = append(t.hits, 0)
}

// open returns what is allowed of the set without a chosen element in which the fewest elements are allowed.
func (t *tree) open() (set []int, ok bool) {
	for i, s := range t.sets {
		if t.hits[i] > 0 {
			continue
		}
		l := slices.DeleteFunc(slices.Clone(s), func(n int) bool { return t.forbidden[n] })
		if !ok || len(l) < len(set) {
			set, ok = l, true
		}
	}
	return set, ok
}

// extend examines all minimal hitting sets that contain the chosen elements and no forbidden ones.
func (t *tree) extend() api.Errno {
	set, ok := t.open()
	if !ok {
		further, ok, e := t.further(t.chosen)
		if e != api.OK || !ok {
			return e
		}
		t.add(further)
		return t.extend()
	}
	// Each hitting set is found once, with the last of its elements in this set: those behind are forbidden meanwhile.
	for _, n := range set {
		t.forbidden[n] = true
	}
	for _, n := range set {
		if t.choose(n) && !t.full() {
			if e := t.extend(); e != api.OK {
				return e
			}
		}
		t.drop(n)
		t.forbidden[n] = false
	}
	return api.OK
}

// choose adds an element; it reports whether each chosen element still hits some set alone.
func (t *tree) choose(n int) bool {
	t.chosen = append(t.chosen, n)
	t.only[n] = 0
	for _, i := range t.of[n] {
		t.hits[i]++
		switch t.hits[i] {
		case 1:
			t.only[n]++
		case 2:
			t.only[t.other(i, n)]--
		}
	}
	return !slices.ContainsFunc(t.chosen, func(m int) bool { return t.only[m] == 0 })
}

// drop takes back the last choice.
func (t *tree) drop(n int) {
	for _, i := range t.of[n] {
		t.hits[i]--
		if t.hits[i] == 1 {
			t.only[t.other(i, n)]++
		}
	}
	t.chosen = t.chosen[:len(t.chosen)-1]
	delete(t.only, n)
}

// other returns the chosen element, other than a given one, that hits a set.
func (t *tree) other(i, n int) int {
	for _, m := range t.sets[i] {
		if _, ok := t.only[m]; ok && m != n {
			return m
		}
	}
	return -1
}

package hitting

import "slices"

// tree searches for the minimal hitting sets of some sets: it adds elements one after the other, as long as each of them alone hits some set.
type tree struct {
	sets    [][]int
	most    int           // the search ends when more sets are found
	of      map[int][]int // the sets of each element
	allowed map[int]bool
	chosen  []int
	hits    []int       // how many chosen elements hit each set
	only    map[int]int // how many sets each chosen element hits alone
	found   [][]int
}

func newTree(sets [][]int, most int) *tree {
	t := &tree{sets: sets, most: most, of: map[int][]int{}, allowed: map[int]bool{}, hits: make([]int, len(sets)), only: map[int]int{}}
	for i, s := range sets {
		for _, n := range s {
			t.of[n] = append(t.of[n], i)
			t.allowed[n] = true
		}
	}
	return t
}

// open returns the set without a chosen element that has the fewest allowed ones.
func (t *tree) open() (set []int, ok bool) {
	for i, s := range t.sets {
		if t.hits[i] > 0 {
			continue
		}
		var l []int
		for _, n := range s {
			if t.allowed[n] {
				l = append(l, n)
			}
		}
		if !ok || len(l) < len(set) {
			set, ok = l, true
		}
	}
	return set, ok
}

// extend finds all minimal hitting sets that contain the chosen elements and otherwise only allowed ones.
func (t *tree) extend() {
	set, ok := t.open()
	if !ok {
		s := slices.Clone(t.chosen)
		slices.Sort(s)
		t.found = append(t.found, s)
		return
	}
	// Each hitting set is found once, with the last of its elements in this set: those behind are not allowed meanwhile.
	for _, n := range set {
		t.allowed[n] = false
	}
	for _, n := range set {
		if t.choose(n) && len(t.found) <= t.most {
			t.extend()
		}
		t.drop(n)
		t.allowed[n] = true
	}
}

// choose adds an element; it reports whether each chosen element still hits some set alone.
func (t *tree) choose(n int) bool {
	t.chosen = append(t.chosen, n)
	t.only[n] = 0
	for _, i := range t.of[n] {
		t.hits[i]++
		switch t.hits[i] {
		case 1:
			t.only[n]++
		case 2:
			t.only[t.other(i, n)]--
		}
	}
	return !slices.ContainsFunc(t.chosen, func(m int) bool { return t.only[m] == 0 })
}

// drop takes back the last choice.
func (t *tree) drop(n int) {
	for _, i := range t.of[n] {
		t.hits[i]--
		if t.hits[i] == 1 {
			t.only[t.other(i, n)]++
		}
	}
	t.chosen = t.chosen[:len(t.chosen)-1]
	delete(t.only, n)
}

// other returns the chosen element, other than a given one, that hits a set.
func (t *tree) other(i, n int) int {
	for _, m := range t.sets[i] {
		if _, ok := t.only[m]; ok && m != n {
			return m
		}
	}
	return -1
}

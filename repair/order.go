package repair

import (
	"cmp"
	"slices"

	"veilstone/smallest"
)

// maxListed is the greatest number of minimal hitting sets that are listed in order to sort them.
const maxListed = 4096

// compareSets orders sets by their sizes, and then lexicographically.
func compareSets(a, b []int) int { return cmp.Or(cmp.Compare(len(a), len(b)), slices.Compare(a, b)) }

// firstHitting returns the first minimal hitting sets, however many there are.
func firstHitting(sets [][]int, most int) (first [][]int) {
	// Sets without common elements are hit independently of each other. The first hitting sets of all consist of the first ones of each component.
	first = [][]int{nil}
	for _, component := range components(sets) {
		var joined [][]int
		for _, a := range firstOf(component, most) {
			for _, b := range first {
				whole := slices.Concat(a, b)
				slices.Sort(whole)
				joined = append(joined, whole)
			}
		}
		slices.SortFunc(joined, compareSets)
		first = joined[:min(len(joined), most)]
	}
	return first[:min(len(first), most)]
}

// components divides sets into lists without common elements.
func components(sets [][]int) (lists [][][]int) {
	of := map[int]int{} // the list of each element
	for _, s := range sets {
		joined := [][]int{s}
		for _, n := range s {
			at, ok := of[n]
			if !ok || lists[at] == nil {
				continue
			}
			joined = append(joined, lists[at]...)
			lists[at] = nil
		}
		for _, x := range joined {
			for _, n := range x {
				of[n] = len(lists)
			}
		}
		lists = append(lists, joined)
	}
	return slices.DeleteFunc(lists, func(l [][]int) bool { return l == nil })
}

// firstOf returns the first minimal hitting sets of sets that have to do with each other.
func firstOf(sets [][]int, most int) (first [][]int) {
	if l := smallest.Hitting(sets, maxListed); len(l) <= maxListed {
		slices.SortFunc(l, compareSets)
		return l[:min(len(l), most)]
	}
	// There are more of them than are wanted: those of each size are searched for in order.
	for size := disjoint(sets, -1); len(first) < most; size++ {
		first = append(first, ofSize(sets, size, most-len(first))...)
	}
	return first
}

// disjoint returns a number of sets that have no common element behind a given one.
func disjoint(sets [][]int, last int) (n int) {
	used := map[int]bool{}
	for _, s := range sets {
		rest := s[behind(s, last):]
		if slices.ContainsFunc(rest, func(x int) bool { return used[x] }) {
			continue
		}
		n++
		for _, x := range rest {
			used[x] = true
		}
	}
	return n
}

// behind returns the index of the first element that is greater than a given one.
func behind(s []int, last int) int {
	at, found := slices.BinarySearch(s, last)
	if found {
		at++
	}
	return at
}

// ofSize returns the first minimal hitting sets with a number of elements, in lexicographic order.
func ofSize(sets [][]int, size, most int) (found [][]int) {
	stack := [][]int{nil} // beginnings of hitting sets; the last one is examined next
search:
	for len(stack) > 0 && len(found) < most {
		chosen := stack[len(stack)-1]
		stack = stack[:len(stack)-1]
		open, needed := examine(sets, chosen)
		if !needed {
			continue
		}
		if len(open) == 0 {
			if len(chosen) == size {
				found = append(found, chosen)
			}
			continue
		}
		last := -1
		if len(chosen) > 0 {
			last = chosen[len(chosen)-1]
		}
		for _, s := range open {
			if behind(s, last) == len(s) {
				continue search
			}
		}
		if len(chosen)+disjoint(open, last) > size {
			continue
		}
		next := candidates(open, last)
		for _, n := range slices.Backward(next) {
			stack = append(stack, append(slices.Clone(chosen), n))
		}
	}
	return found
}

// examine returns the sets that are not hit, and whether each chosen element hits some set alone.
func examine(sets [][]int, chosen []int) (open [][]int, needed bool) {
	alone := map[int]bool{}
	for _, s := range sets {
		hits, by := 0, 0
		for _, n := range s {
			if _, ok := slices.BinarySearch(chosen, n); ok {
				hits, by = hits+1, n
			}
		}
		switch hits {
		case 0:
			open = append(open, s)
		case 1:
			alone[by] = true
		}
	}
	return open, len(alone) == len(chosen)
}

// candidates returns, in order, the elements that can be the next one: none is greater than all elements of a set that is open.
func candidates(open [][]int, last int) (l []int) {
	highest := slices.Max(open[0])
	for _, s := range open {
		highest = min(highest, slices.Max(s))
		l = append(l, s[behind(s, last):]...)
	}
	slices.Sort(l)
	l = slices.Compact(l)
	return l[:behind(l, highest)]
}

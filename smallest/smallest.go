// Package smallest finds minimal sets that are sufficient by a test. A set that contains a sufficient one must be sufficient, too.
package smallest

import (
	"slices"

	"veilstone/api"
)

// Test reports whether a set of numbers below 1024 is sufficient; part is a part of it that is sufficient as well, perhaps the set itself.
type Test func(set []int) (ok bool, part []int, e api.Errno)

// Finder asks a test and remembers what follows from its answers.
type Finder struct {
	test     Test
	good     []Bits        // sufficient sets
	complete bool          // whether all minimal ones are among them
	bad      []Bits        // sets that are not sufficient
	know     map[Bits]bool // the sets in bad
}

// New returns a finder that knows nothing.
func New(test Test) *Finder { return &Finder{test: test, know: map[Bits]bool{}} }

// Complete returns a finder that knows all minimal sufficient sets.
func Complete(sets [][]int) *Finder {
	f := &Finder{complete: true}
	for _, s := range sets {
		f.good = append(f.good, BitsOf(s))
	}
	return f
}

// sufficient reports whether a set is sufficient, and a part of it that is.
func (f *Finder) sufficient(set Bits) (ok bool, part Bits, e api.Errno) {
	for _, g := range f.good {
		if g.Within(set) {
			return true, g, api.OK
		}
	}
	if f.complete || f.know[set] {
		return false, Bits{}, api.OK
	}
	for _, b := range f.bad {
		if set.Within(b) {
			return false, Bits{}, api.OK
		}
	}
	ok, list, e := f.test(set.List())
	if e != api.OK {
		return false, Bits{}, e
	}
	if !ok {
		f.bad = append(f.bad, set)
		f.know[set] = true
		return false, Bits{}, api.OK
	}
	part = BitsOf(list)
	f.good = append(f.good, part)
	return true, part, api.OK
}

// Shrink removes elements of a set, from the greatest to the least, as long as the rest is sufficient; ok is false if the set is not.
func (f *Finder) Shrink(set []int) (least []int, ok bool, e api.Errno) {
	rest := BitsOf(set)
	ok, part, e := f.sufficient(rest)
	if e != api.OK || !ok {
		return nil, false, e
	}
	// Several elements at once are tried first: if the rest is sufficient without them, it is when they are removed one after the other.
	var reduce func(l []int) api.Errno
	reduce = func(l []int) api.Errno {
		less := rest
		for _, n := range l {
			less = less.Without(n)
		}
		if part.Within(less) {
			rest = less
			return api.OK
		}
		ok, p, e := f.sufficient(less)
		if e != api.OK {
			return e
		}
		if ok {
			rest, part = less, p
		}
		if ok || len(l) == 1 {
			return api.OK
		}
		if e := reduce(l[len(l)/2:]); e != api.OK {
			return e
		}
		return reduce(l[:len(l)/2])
	}
	if len(set) > 0 {
		if e := reduce(set); e != api.OK {
			return nil, false, e
		}
	}
	return rest.List(), true, api.OK
}

// All returns all minimal sufficient sets of some elements; ok is false if there are more than most of them.
func (f *Finder) All(elements []int, most int) (sets [][]int, ok bool, e api.Errno) {
	t := newTree()
	t.full = func() bool { return len(t.sets) > most }
	t.further = func(chosen []int) ([]int, bool, api.Errno) {
		rest := BitsOf(elements)
		for _, n := range chosen {
			rest = rest.Without(n)
		}
		if t.full() {
			return nil, false, api.OK
		}
		return f.Shrink(rest.List())
	}
	// A set that is found late may have made a difference earlier; the last round finds none.
	for n := -1; n != len(t.sets); {
		n = len(t.sets)
		if e := t.extend(); e != api.OK {
			return nil, false, e
		}
		if t.full() {
			return nil, false, api.OK
		}
	}
	return t.sets, true, api.OK
}

// Hitting returns all minimal hitting sets of some sets, in any order; if there are more than most, it returns only some of them, but more than most.
func Hitting(sets [][]int, most int) (found [][]int) {
	t := newTree()
	for _, s := range sets {
		t.add(s)
	}
	t.full = func() bool { return len(found) > most }
	t.further = func(chosen []int) ([]int, bool, api.Errno) {
		s := slices.Clone(chosen)
		slices.Sort(s)
		found = append(found, s)
		return nil, false, api.OK
	}
	t.extend()
	return found
}

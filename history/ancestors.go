package history

import (
	"iter"
	"slices"
	"strings"

	"veilstone/api"
)

// Find returns the commit of a label.
func Find(h api.History, label string) (no int, e api.Errno) {
	if e := Check(h); e != api.OK {
		return 0, e
	}
	name := label
	if i := strings.IndexByte(label, '^'); i >= 0 {
		name = label[:i]
	}
	parents, ok := suffixes(label[len(name):])
	if !ok || !isLabelName(name) {
		return 0, api.ErrName
	}
	if at, ok := find(h.Branches, refName, name); ok {
		no = h.Branches[at].No
	} else if at, ok := find(h.Tags, refName, name); ok {
		no = h.Tags[at].No
	} else {
		return 0, api.ErrVersion
	}
	for _, n := range parents {
		l := h.Commits[no-1].Parents
		if n > len(l) {
			return 0, api.ErrVersion
		}
		no = l[n-1]
	}
	return no, api.OK
}

// suffixes reads which parents the suffixes of a label lead to: 1 or 2 each.
func suffixes(s string) (parents []int, ok bool) {
read:
	for at := 0; at < len(s); {
		if s[at] != '^' {
			return nil, false
		}
		at++
		parents = append(parents, 1)
		if at == len(s) {
			break read
		}
		switch s[at] {
		case '^':
			continue read
		case '1':
		case '2':
			parents[len(parents)-1] = 2
		default:
			return nil, false
		}
		at++
	}
	return parents, true
}

// ancestors enumerates a commit and its ancestors, from the greatest number to the least.
func ancestors(h api.History, no int) iter.Seq[int] {
	return func(yield func(int) bool) {
		reached := make([]bool, no+1)
		reached[no] = true
		for n := no; n > 0; n-- {
			if !reached[n] {
				continue
			}
			for _, p := range h.Commits[n-1].Parents {
				reached[p] = true
			}
			if !yield(n) {
				return
			}
		}
	}
}

// Ancestors returns a commit and all its ancestors.
func Ancestors(h api.History, no int) (l []int, e api.Errno) {
	if e := Check(h); e != api.OK {
		return nil, e
	}
	if !exists(h, no) {
		return nil, api.ErrVersion
	}
	for n := range ancestors(h, no) {
		l = append(l, n)
	}
	slices.Reverse(l)
	return l, api.OK
}

// Common returns the last common commits of two ones and their ancestors.
func Common(h api.History, a, b int) (l []int, e api.Errno) {
	if e := Check(h); e != api.OK {
		return nil, e
	}
	if !exists(h, a) || !exists(h, b) {
		return nil, api.ErrVersion
	}
	of := map[int]bool{}
	for n := range ancestors(h, a) {
		of[n] = true
	}
	below := map[int]bool{} // the ancestors of common commits
	for n := range ancestors(h, b) {
		if !of[n] || below[n] {
			continue
		}
		l = append(l, n)
		for m := range ancestors(h, n) {
			below[m] = true
		}
	}
	slices.Reverse(l)
	return l, api.OK
}

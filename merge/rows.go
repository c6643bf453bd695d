package merge

import (
	"iter"

	"veilstone/api"
	"veilstone/terms"
)

// row is an axiom in those of three sorted lists that have it.
type row struct {
	inOld, inOurs, inTheirs bool
	old, ours, theirs       api.Axiom
}

// rows walks through three sorted lists together.
func rows(old, ours, theirs []api.Axiom) iter.Seq[row] {
	return func(yield func(row) bool) {
		for len(old)+len(ours)+len(theirs) > 0 {
			var least *api.Axiom
			for _, l := range [3][]api.Axiom{old, ours, theirs} {
				if len(l) > 0 && (least == nil || terms.CompareAxiom(l[0], *least) < 0) {
					least = &l[0]
				}
			}
			var r row
			r.old, r.inOld, old = take(old, *least)
			r.ours, r.inOurs, ours = take(ours, *least)
			r.theirs, r.inTheirs, theirs = take(theirs, *least)
			if !yield(r) {
				return
			}
		}
	}
}

// take removes the first axiom of a list if it is alike to a given one.
func take(l []api.Axiom, a api.Axiom) (x api.Axiom, ok bool, rest []api.Axiom) {
	if len(l) == 0 || terms.CompareAxiom(l[0], a) != 0 {
		return api.Axiom{}, false, l
	}
	return l[0], true, l[1:]
}

func index(b bool) int {
	if b {
		return 1
	}
	return 0
}

// decision returns the axiom that is kept.
type decision func(r row) (a api.Axiom, ok bool)

// decisions returns what is kept, depending on whether the old version, ours and theirs have an axiom.
func decisions() [2][2][2]decision {
	return [2][2][2]decision{
		{{drop, keepTheirs}, {keepOurs, keepBoth}},
		{{drop, drop}, {drop, keepBoth}},
	}
}

func drop(row) (api.Axiom, bool)         { return api.Axiom{}, false }
func keepOurs(r row) (api.Axiom, bool)   { return r.ours, true }
func keepTheirs(r row) (api.Axiom, bool) { return r.theirs, true }

// keepBoth keeps an axiom that both have. If they differ, the one that has changed it prevails.
func keepBoth(r row) (api.Axiom, bool) {
	a := r.ours
	wasOpen := r.inOld && r.old.Open
	a.Open = r.ours.Open && r.theirs.Open || (r.ours.Open || r.theirs.Open) && !wasOpen
	return a, true
}

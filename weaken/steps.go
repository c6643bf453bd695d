package weaken

import (
	"iter"
	"slices"

	"veilstone/api"
	"veilstone/terms"
)

// step yields what a concept is replaced by; it ends early if the yielding function returns false.
type step func(d api.Concept, yield func(api.Concept) bool) bool

func conceptSteps() map[int]step {
	return map[int]step{
		api.BottomC: toTop, api.NamedC: toTop, api.NominalC: toTop,
		api.RangeC: widerRange, api.SomeC: widerSome, api.AndC: widerAnd,
	}
}

// widerSteps enumerates the steps from a tidy concept; what they lead to is not tidy yet.
func widerSteps(d api.Concept) iter.Seq[api.Concept] {
	return func(yield func(api.Concept) bool) {
		if s := conceptSteps()[d.Kind]; s != nil {
			s(d, yield)
		}
	}
}

// wider returns, in order, the concepts that are one step wider than a tidy one.
func wider(d api.Concept) (l []api.Concept) {
	for c := range widerSteps(d) {
		x, e := terms.Tidy(c)
		if e == api.OK && terms.Compare(x, d) != 0 {
			l = append(l, x)
		}
	}
	slices.SortFunc(l, terms.Compare)
	return slices.CompactFunc(l, func(c, d api.Concept) bool { return terms.Compare(c, d) == 0 })
}

func toTop(_ api.Concept, yield func(api.Concept) bool) bool {
	return yield(api.Concept{Kind: api.TopC})
}

func widerRange(d api.Concept, yield func(api.Concept) bool) bool {
	low, high := d, d
	low.Lo, high.Hi = -api.MaxNumber, api.MaxNumber
	if !yield(low) || !yield(high) {
		return false
	}
	return d.Lo != low.Lo || d.Hi != high.Hi || toTop(d, yield)
}

func widerSome(d api.Concept, yield func(api.Concept) bool) bool {
	part := d.Parts[0]
	for _, p := range wider(part) {
		d.Parts = []api.Concept{p}
		if !yield(d) {
			return false
		}
	}
	return part.Kind != api.TopC || toTop(d, yield)
}

func widerAnd(d api.Concept, yield func(api.Concept) bool) bool {
	for i, part := range d.Parts {
		// Everything in place of a part is the conjunction without it.
		for _, p := range append(wider(part), api.Concept{Kind: api.TopC}) {
			x := d
			x.Parts = slices.Clone(d.Parts)
			x.Parts[i] = p
			if !yield(x) {
				return false
			}
		}
	}
	return true
}

// weakerSteps enumerates the steps from a tidy axiom; what they lead to is not tidy yet.
func weakerSteps(x api.Axiom) iter.Seq[api.Axiom] {
	top := api.Concept{Kind: api.TopC}
	return func(yield func(api.Axiom) bool) {
		switch x.Kind {
		case api.SubA, api.DomainA, api.TypeA:
			for _, c := range wider(x.Right) {
				y := x
				y.Right = c
				if !yield(y) {
					return
				}
			}
		case api.EquivA:
			_ = yield(api.Axiom{Kind: api.SubA, Left: x.Left, Right: x.Right}) &&
				yield(api.Axiom{Kind: api.SubA, Left: x.Right, Right: x.Left})
		case api.LinkA:
			some := api.Concept{Kind: api.SomeC, Name: x.Role, Parts: []api.Concept{top}}
			yield(api.Axiom{Kind: api.TypeA, A: x.A, Right: some})
		default:
			yield(api.Axiom{Kind: api.SubA, Left: top, Right: top})
		}
	}
}

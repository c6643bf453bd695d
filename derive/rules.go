package derive

import "veilstone/api"

// one is an instance with one fact as its premise.
func one(rule, piece int, conclusion, f Fact) Step {
	return Step{Rule: rule, Piece: piece, Fact: conclusion, From: [2]Fact{f}, Many: 1}
}

// two is an instance with two facts as its premises.
func two(rule, piece int, conclusion, f, g Fact) Step {
	return Step{Rule: rule, Piece: piece, Fact: conclusion, From: [2]Fact{f, g}, Many: 2}
}

// include is rule 3.
func (e *Engine) include(f Fact, report func(Step)) {
	for _, p := range e.pieces[key{api.SubP, f.B}] {
		report(one(3, p.index, sub(f.A, p.c), f))
	}
}

// conjoin is rule 4, with the fact as either premise.
func (e *Engine) conjoin(f Fact, report func(Step)) {
	for _, p := range e.pieces[key{api.AndP, f.B}] {
		if g := sub(f.A, p.b); e.known[g] {
			report(two(4, p.index, sub(f.A, p.c), f, g))
		}
	}
	for _, p := range e.pieces[key{secondAnd, f.B}] {
		if g := sub(f.A, p.a); e.known[g] {
			report(two(4, p.index, sub(f.A, p.c), g, f))
		}
	}
}

// relate is rule 5.
func (e *Engine) relate(f Fact, report func(Step)) {
	for _, p := range e.pieces[key{api.SomeP, f.B}] {
		report(one(5, p.index, link(f.A, p.r, p.c), f))
	}
}

// widen is rule 6.
func (e *Engine) widen(f Fact, report func(Step)) {
	for _, p := range e.pieces[key{api.RoleP, f.R}] {
		report(one(6, p.index, link(f.A, p.t, f.B), f))
	}
}

// chainOn is rule 7 with the fact as the first premise.
func (e *Engine) chainOn(f Fact, report func(Step)) {
	for _, p := range e.pieces[key{api.ChainP, f.R}] {
		for _, c := range e.out[end{f.B, p.s}] {
			report(two(7, p.index, link(f.A, p.t, c), f, link(f.B, p.s, c)))
		}
	}
}

// chainBack is rule 7 with the fact as the second premise.
func (e *Engine) chainBack(f Fact, report func(Step)) {
	for _, p := range e.pieces[key{secondChain, f.R}] {
		for _, a := range e.into[end{f.A, p.r}] {
			report(two(7, p.index, link(a, p.t, f.B), link(a, p.r, f.A), f))
		}
	}
}

// fill is rule 8 with the fact as the first premise.
func (e *Engine) fill(f Fact, report func(Step)) {
	for _, p := range e.pieces[key{api.FillP, f.R}] {
		if g := sub(f.B, p.a); e.known[g] {
			report(two(8, p.index, sub(f.A, p.c), f, g))
		}
	}
}

// fillBelow is rule 8 with the fact as the second premise.
func (e *Engine) fillBelow(f Fact, report func(Step)) {
	for _, p := range e.pieces[key{fillByAtom, f.B}] {
		for _, a := range e.into[end{f.A, p.r}] {
			report(two(8, p.index, sub(a, p.c), link(a, p.r, f.A), f))
		}
	}
}

// empty is rule 9 with the fact as the first premise.
func (e *Engine) empty(f Fact, report func(Step)) {
	if g := sub(f.B, e.bottom); e.known[g] {
		report(two(9, -1, sub(f.A, e.bottom), f, g))
	}
}

// emptyBelow is rule 9 with the fact as the second premise.
func (e *Engine) emptyBelow(f Fact, report func(Step)) {
	if f.B != e.bottom {
		return
	}
	for _, x := range e.intoAny[f.A] {
		report(two(9, -1, sub(x.atom, e.bottom), link(x.atom, x.role, f.A), f))
	}
}

// value is rule 11.
func (e *Engine) value(f Fact, report func(Step)) {
	for _, p := range e.pieces[key{api.InP, f.B}] {
		report(one(11, p.index, Fact{Kind: api.RangeF, A: f.A, R: p.r, Lo: p.lo, Hi: p.hi}, f))
	}
}

// meet is the rules 12 and 13.
func (e *Engine) meet(f Fact, report func(Step)) {
	for _, g := range e.ranges[end{f.A, f.R}] {
		h := f
		h.Lo, h.Hi = max(f.Lo, g.Lo), min(f.Hi, g.Hi)
		if h.Lo <= h.Hi {
			report(two(12, -1, h, f, g))
		} else {
			report(two(13, -1, sub(f.A, e.bottom), f, g))
		}
	}
}

// leave is rule 14.
func (e *Engine) leave(f Fact, report func(Step)) {
	for _, p := range e.pieces[key{api.OutP, f.R}] {
		if p.lo <= f.Lo && f.Hi <= p.hi {
			report(one(14, p.index, sub(f.A, p.c), f))
		}
	}
}

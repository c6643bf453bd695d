package proof

import (
	"veilstone/api"
	"veilstone/derive"
)

// recorder keeps a step for each fact that is derived, and where it is.
type recorder struct {
	steps []api.Step
	known map[api.Fact]int
}

// record adds a step for a fact that is not known yet; what its premises are called is up to the caller.
func record[T any](r *recorder, s api.Step, premises []T, place func(T) int) {
	if _, ok := r.known[s.Fact]; ok {
		return
	}
	for _, x := range premises {
		s.From = append(s.From, place(x))
	}
	r.known[s.Fact] = len(r.steps)
	r.steps = append(r.steps, s)
}

// derivation returns a proof of a fact that saturate.Derives accepts for the closure of pieces.
func derivation(p []api.Piece, c api.Closure, f api.Fact) api.Proof {
	r := &recorder{known: map[api.Fact]int{}}
	target, rule := source(c, f)
	r.run(p, target)
	if rule != 0 {
		record(r, api.Step{Rule: rule, Fact: f, Piece: -1}, []api.Fact{target}, func(x api.Fact) int { return r.known[x] })
	}
	return keepNeeded(r.steps, r.known[f])
}

// source returns the fact of a closure from which a fact follows, and the rule by which it does (0: it is the fact itself).
func source(c api.Closure, f api.Fact) (g api.Fact, rule int) {
	for _, x := range c.Facts {
		switch {
		case x == f:
			return x, 0
		case x.Kind == api.RangeF && f.Kind == api.RangeF && x.A == f.A && x.R == f.R && f.Lo <= x.Lo && x.Hi <= f.Hi:
			g, rule = x, widerRange
		case rule == 0 && x == api.Fact{Kind: api.SubF, A: f.A, B: bottomAtom}:
			g, rule = x, fromNothing
		}
	}
	return g, rule
}

// run derives facts until it finds the given one.
func (r *recorder) run(p []api.Piece, target api.Fact) {
	engine := derive.New(p)
	places := map[derive.Fact]int{}
	var queue []derive.Fact
	goal := engine.Number(target)
	report := func(s derive.Step) {
		if !engine.Add(s.Fact) {
			return
		}
		places[s.Fact] = len(r.steps)
		queue = append(queue, s.Fact)
		step := api.Step{Rule: s.Rule, Fact: engine.Text(s.Fact), Piece: s.Piece}
		record(r, step, s.From[:s.Many], func(x derive.Fact) int { return places[x] })
	}
	engine.Start(report)
	rules := engine.Rules()
	for next := 0; next < len(queue) && !engine.Has(goal); next++ {
		for _, rule := range rules[queue[next].Kind] {
			rule(queue[next], report)
		}
	}
}

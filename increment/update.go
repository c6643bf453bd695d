package increment

import (
	"slices"

	"veilstone/api"
	"veilstone/derive"
)

// update derives the closure of pieces from an earlier closure.
type update struct {
	pieces []api.Piece
	engine *derive.Engine
	facts  []derive.Fact
	queue  []derive.Fact
	budget int
}

func newUpdate(p []api.Piece, old api.Closure, budget int) *update {
	return &update{pieces: p, engine: derive.New(p, old.Facts), budget: budget}
}

// most returns how many facts the closure may have.
func (u *update) most() int { return min(u.budget, api.MaxFacts) }

// tooMany returns the error of saturate.All if there are too many facts.
func (u *update) tooMany() api.Errno {
	switch {
	case len(u.facts) <= u.most():
		return api.OK
	case u.budget < api.MaxFacts:
		return api.ErrBudget
	}
	return api.ErrLimit
}

// keep adds a fact that is known to follow, and whose consequences are known, too.
func (u *update) keep(f api.Fact) {
	if x := u.engine.Number(f); u.engine.Add(x) {
		u.facts = append(u.facts, x)
	}
}

// derived adds the conclusion of a step and remembers to go on from it.
func (u *update) derived(s derive.Step) {
	if len(u.facts) <= u.most() && u.engine.Add(s.Fact) {
		u.facts = append(u.facts, s.Fact)
		u.queue = append(u.queue, s.Fact)
	}
}

// apply calls the rules for a fact.
func apply(engine *derive.Engine, f derive.Fact, report func(derive.Step)) {
	rules := engine.Rules()
	if f.Kind < 1 || int(f.Kind) >= len(rules) {
		return // the closure is not valid
	}
	for _, rule := range rules[f.Kind] {
		rule(f, report)
	}
}

// finish derives everything that follows from the facts in the queue.
func (u *update) finish() api.Errno {
	for len(u.queue) > 0 && u.tooMany() == api.OK {
		f := u.queue[0]
		u.queue = u.queue[1:]
		apply(u.engine, f, u.derived)
	}
	return u.tooMany()
}

// grow derives what follows from old facts and from the pieces from an index on.
func (u *update) grow(old []api.Fact, from int) api.Errno {
	for _, f := range old {
		u.keep(f)
	}
	if e := u.tooMany(); e != api.OK {
		return e
	}
	u.engine.Start(u.derived)
	// Only instances that use a new piece can have a new conclusion; an engine with the new pieces alone finds them.
	added := derive.New(u.pieces[from:], old)
	for _, f := range old {
		added.Add(added.Number(f))
	}
	for _, f := range old {
		apply(added, added.Number(f), func(s derive.Step) {
			s.Fact = u.engine.Number(added.Text(s.Fact))
			u.derived(s)
		})
	}
	return u.finish()
}

// shrink derives what follows without the removed pieces.
func (u *update) shrink(w api.Work, which []int) api.Errno {
	lost := u.mayBeLost(w, which)
	atoms := map[string]bool{}
	for _, f := range w.Closure.Facts {
		if !lost[f] {
			u.keep(f)
		} else {
			atoms[f.A] = true
		}
	}
	// Every conclusion has a premise about the same atom, or none.
	again := slices.DeleteFunc(slices.Clone(w.Closure.Facts), func(f api.Fact) bool { return lost[f] || !atoms[f.A] })
	u.engine.Start(u.derived)
find:
	for _, f := range again {
		apply(u.engine, u.engine.Number(f), u.derived)
		if u.tooMany() != api.OK {
			break find
		}
	}
	return u.finish()
}

// mayBeLost returns the facts that are derived, perhaps among other ways, by means of removed pieces.
func (u *update) mayBeLost(w api.Work, which []int) map[api.Fact]bool {
	engine := derive.New(w.Pieces, w.Closure.Facts)
	for _, f := range w.Closure.Facts {
		engine.Add(engine.Number(f))
	}
	removed := make([]bool, len(w.Pieces))
	for _, i := range which {
		removed[i] = true
	}
	remain := map[string]bool{}
	for _, a := range u.engine.Atoms() {
		remain[a] = true
	}
	lost := map[derive.Fact]bool{}
	var queue []derive.Fact
	lose := func(s derive.Step) {
		if !lost[s.Fact] {
			lost[s.Fact] = true
			queue = append(queue, s.Fact)
		}
	}
	loseRemoved := func(s derive.Step) {
		if s.Piece >= 0 && removed[s.Piece] {
			lose(s)
		}
	}
	engine.Start(func(s derive.Step) {
		if !remain[engine.Text(s.Fact).A] {
			lose(s)
		}
		loseRemoved(s)
	})
	for _, f := range w.Closure.Facts {
		apply(engine, engine.Number(f), loseRemoved)
	}
	for len(queue) > 0 {
		f := queue[0]
		queue = queue[1:]
		apply(engine, f, lose)
	}
	texts := map[api.Fact]bool{}
	for f := range lost {
		texts[engine.Text(f)] = true
	}
	return texts
}

func (u *update) texts(facts []derive.Fact) (l []api.Fact) {
	for _, f := range facts {
		l = append(l, u.engine.Text(f))
	}
	return l
}

// work returns the work with all facts, in order.
func (u *update) work() api.Work {
	slices.SortFunc(u.facts, derive.Compare)
	return api.Work{Pieces: u.pieces, Closure: api.Closure{Atoms: u.engine.Atoms(), Facts: u.texts(u.facts)}}
}

// without returns the facts that are not in a list.
func (u *update) without(old []api.Fact) (new []api.Fact) {
	before := map[api.Fact]bool{}
	for _, f := range old {
		before[f] = true
	}
	for _, f := range u.texts(u.facts) {
		if !before[f] {
			new = append(new, f)
		}
	}
	return new
}

// missing returns the elements of a list that are not among the facts.
func (u *update) missing(old []api.Fact) (gone []api.Fact) {
	for _, f := range old {
		if !u.engine.Has(u.engine.Number(f)) {
			gone = append(gone, f)
		}
	}
	return gone
}

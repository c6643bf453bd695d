package reason

import (
	"slices"

	"veilstone/api"
	"veilstone/derive"
	"veilstone/normal"
	"veilstone/smallest"
)

const (
	topAtom    = "*"
	bottomAtom = "!"

	// maxTraced is the greatest number of sets that are kept in view while facts are traced to axioms.
	maxTraced = 20000
)

// TraceAxiom returns all minimal sets of axioms of a valid base from which, together with those that are kept, a tidy axiom follows. ok is false if they are not found in this way. The closure of the whole base must not be too large.
func TraceAxiom(b api.Base, a api.Axiom, keep []int) (sets [][]int, ok bool) {
	if IsRoleAxiom(a) {
		return nil, false
	}
	p, e := normal.Pieces(b.Axioms)
	if e != api.OK {
		return nil, false
	}
	goal, facts, e := normal.Goal(a)
	if e != api.OK || len(facts) != 1 {
		return nil, false
	}
	f := facts[0]
	nothing := api.Fact{Kind: api.SubF, A: f.A, B: bottomAtom}
	return trace(slices.Concat(p, goal), keep, func(g api.Fact) bool { return g == f || g == nothing })
}

// TraceClashes returns all minimal sets of axioms of a valid base that, together with those that are kept, contradict each other.
func TraceClashes(b api.Base, keep []int) (sets [][]int, ok bool) {
	p, e := normal.Pieces(b.Axioms)
	if e != api.OK {
		return nil, false
	}
	return trace(p, keep, func(f api.Fact) bool {
		return f == api.Fact{Kind: api.SubF, A: f.A, B: bottomAtom} && (f.A == topAtom || f.A[0] == '{')
	})
}

// tracer finds, for each fact, the minimal sets of axioms from which it follows.
type tracer struct {
	engine  *derive.Engine
	axioms  []smallest.Bits // the axiom of each piece, unless it is kept
	isGoal  func(f api.Fact) bool
	goals   map[derive.Fact]bool
	sets    map[derive.Fact][]smallest.Bits
	fresh   map[derive.Fact][]smallest.Bits // those from which nothing has been concluded yet
	queue   []derive.Fact
	results []smallest.Bits
	added   int
}

// trace returns the minimal sets of axioms from which one of some facts follows, in any order.
func trace(p []api.Piece, keep []int, isGoal func(f api.Fact) bool) (sets [][]int, ok bool) {
	t := &tracer{
		engine: derive.New(p), isGoal: isGoal, goals: map[derive.Fact]bool{},
		sets: map[derive.Fact][]smallest.Bits{}, fresh: map[derive.Fact][]smallest.Bits{},
	}
	for _, x := range p {
		var s smallest.Bits
		if _, kept := slices.BinarySearch(keep, x.From); x.From >= 0 && !kept {
			s = smallest.BitsOf([]int{x.From})
		}
		t.axioms = append(t.axioms, s)
	}
	t.saturate()
	t.engine.Start(func(s derive.Step) { t.add(s.Fact, t.axiomsOf(s.Piece)) })
	t.run()
	if t.added > maxTraced {
		return nil, false
	}
	for _, r := range t.results {
		sets = append(sets, r.List())
	}
	return sets, true
}

func (t *tracer) axiomsOf(piece int) smallest.Bits {
	if piece < 0 {
		return smallest.Bits{}
	}
	return t.axioms[piece]
}

// saturate derives all facts, so that the rules find all ways to a fact.
func (t *tracer) saturate() {
	var queue []derive.Fact
	report := func(s derive.Step) {
		if t.engine.Add(s.Fact) {
			queue = append(queue, s.Fact)
			t.goals[s.Fact] = t.isGoal(t.engine.Text(s.Fact))
		}
	}
	t.engine.Start(report)
	rules := t.engine.Rules()
	for next := 0; next < len(queue); next++ {
		for _, rule := range rules[queue[next].Kind] {
			rule(queue[next], report)
		}
	}
}

// run concludes sets for facts from sets for their premises.
func (t *tracer) run() {
	rules := t.engine.Rules()
	for len(t.queue) > 0 && t.added <= maxTraced {
		f := t.queue[0]
		t.queue = t.queue[1:]
		fresh := t.fresh[f]
		delete(t.fresh, f)
		for _, rule := range rules[f.Kind] {
			rule(f, func(s derive.Step) { t.conclude(s, f, fresh) })
		}
	}
}

// conclude adds the sets that a step leads to from new sets for one of its premises.
func (t *tracer) conclude(s derive.Step, f derive.Fact, fresh []smallest.Bits) {
	others := []smallest.Bits{{}}
	if s.Many == 2 {
		other := s.From[0]
		if other == f {
			other = s.From[1]
		}
		others = t.sets[other]
	}
	for _, x := range fresh {
		for _, y := range others {
			if t.added > maxTraced {
				return
			}
			t.add(s.Fact, x.With(y).With(t.axiomsOf(s.Piece)))
		}
	}
}

// add adds a set for a fact, unless a part of it is known to be sufficient for the fact or for a goal.
func (t *tracer) add(f derive.Fact, set smallest.Bits) {
	has := func(x smallest.Bits) bool { return x.Within(set) }
	if slices.ContainsFunc(t.results, has) || slices.ContainsFunc(t.sets[f], has) {
		return
	}
	t.added++
	t.sets[f] = append(without(t.sets[f], set), set)
	if t.goals[f] {
		t.results = append(without(t.results, set), set)
	}
	if len(t.fresh[f]) == 0 {
		t.queue = append(t.queue, f)
	}
	t.fresh[f] = append(without(t.fresh[f], set), set)
}

// without returns new memory with the sets of a list that do not contain a given one.
func without(l []smallest.Bits, set smallest.Bits) (rest []smallest.Bits) {
	for _, x := range l {
		if !set.Within(x) {
			rest = append(rest, x)
		}
	}
	return rest
}

package explain

import (
	"veilstone/api"
	"veilstone/base"
	"veilstone/entail"
	"veilstone/hitting"
	"veilstone/reason"
	"veilstone/smallest"
	"veilstone/terms"
)

// question asks why a tidy axiom follows from a valid base.
type question struct {
	base     api.Base
	axiom    api.Axiom
	reason   *reason.Question // once a set of axioms was examined without an error
	finder   *smallest.Finder
	whole    bool    // the whole base was examined without an error
	traced   [][]int // all explanations
	complete bool    // whether they could be traced
}

func newQuestion(b api.Base, a api.Axiom) (q *question, e api.Errno) {
	if e := base.Check(b); e != api.OK {
		return nil, e
	}
	x, e := terms.TidyAxiom(a)
	if e != api.OK {
		return nil, e
	}
	return &question{base: b, axiom: x}, api.OK
}

// one returns the explanation that remains when axioms are removed from the last to the first.
func (q *question) one(out []int) (set []int, ok bool, e api.Errno) {
	all := reason.Rest(q.base, out)
	if !q.whole {
		// A set is examined as it is: it may be too large where a part of it is not.
		ok, e = entail.Entails(reason.Part(q.base, all), q.axiom)
		if e != api.OK || !ok {
			return nil, false, e
		}
		q.prepare(len(out) == 0)
	}
	return q.finder.Shrink(q.reason.Mattering(all))
}

// prepare makes what finds explanations, once a set was examined without an error; whole says that it was the whole base.
func (q *question) prepare(whole bool) {
	if q.reason == nil {
		q.reason = reason.New(q.base, q.axiom)
		q.finder = smallest.New(q.reason.Uses)
	}
	if !whole {
		return
	}
	q.whole = true
	if q.traced, q.complete = reason.TraceAxiom(q.base, q.axiom, nil); q.complete {
		q.finder = smallest.Complete(q.traced)
	}
}

// all returns all explanations, in any order.
func (q *question) all() (sets [][]int, e api.Errno) {
	_, ok, e := q.one(nil)
	if e != api.OK || !ok {
		return nil, e
	}
	sets, few := q.traced, len(q.traced) <= api.MaxSets
	if !q.complete {
		sets, few, e = q.finder.All(q.reason.Mattering(reason.Rest(q.base, nil)), api.MaxSets)
	}
	if e != api.OK {
		return nil, e
	}
	if !few {
		return nil, api.ErrLimit
	}
	return sets, api.OK
}

// search goes on with a search, for at most some steps.
func (q *question) search(s api.Search, steps int) (x api.Search, e api.Errno) {
	ask := func(s api.Search) (api.Search, api.Errno) {
		out, _ := hitting.Next(s)
		set, ok, e := q.one(out)
		if e != api.OK {
			return api.Search{}, e
		}
		return hitting.Give(s, set, !ok)
	}
	return repeat(s, ask, steps, func(s api.Search) bool { return s.Done })
}

// repeat performs steps until there are enough of them, or the search is done.
func repeat[S any](s S, step func(S) (S, api.Errno), steps int, done func(S) bool) (x S, e api.Errno) {
	for n := 0; n < steps && !done(s); n++ {
		if s, e = step(s); e != api.OK {
			var zero S
			return zero, e
		}
	}
	return s, api.OK
}

package answer

import (
	"slices"

	"veilstone/api"
	"veilstone/match"
	"veilstone/terms"
)

// All returns all answers of a query.
func All(b api.Base, q api.Query) (l []api.Told, e api.Errno) {
	effective, m, e := prepare(b, q)
	if e != api.OK {
		return nil, e
	}
	n, e := terms.Vocabulary(effective.Axioms)
	if e != api.OK {
		return nil, e
	}
	index := match.New(m)
	names := match.Tellable(n.Individuals)
	answers := func(part int) (told []api.Told) {
		for tuple := range index.Answers(q.Parts[part], q.Told, names) {
			told = append(told, api.Told{Part: part, Tuple: slices.Clone(tuple)})
		}
		return told
	}
	for i := range q.Parts {
		l = collect(l, answers(i)...)
	}
	return l, api.OK
}

func collect(l []api.Told, more ...api.Told) []api.Told { return append(l, more...) }

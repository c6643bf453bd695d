package vault

import (
	"cmp"
	"slices"
	"strings"

	"veilstone/api"
	"veilstone/base"
	"veilstone/censor"
	"veilstone/history"
	"veilstone/ledger"
	"veilstone/reply"
	"veilstone/store"
)

// commitsOf returns the commits of a request.
func commitsOf(s api.State, r api.Request) (l []int, e api.Errno) {
	no, e := history.Find(s.History, r.Version)
	if e != api.OK {
		return nil, e
	}
	l = []int{no}
	switch r.Kind {
	case api.DifferR:
		other, e := history.Find(s.History, r.Other)
		if e != api.OK {
			return nil, e
		}
		l = append(l, other)
	case api.MergeR:
		parents := s.History.Commits[no-1].Parents
		if len(parents) != 2 {
			return nil, api.ErrRequest
		}
		l = append(l, parents...)
	}
	return l, api.OK
}

// Ask answers a request of a reader and returns the state after it.
func Ask(s api.State, r api.Request) (x api.Reply, y api.State, e api.Errno) {
	if e := store.Check(s); e != api.OK {
		return api.Reply{}, api.State{}, e
	}
	q := &asking{request: r, state: s}
	if e := q.tell(); e != api.OK {
		return api.Reply{Code: e}, s, api.OK
	}
	x, e = q.reply()
	if e != api.OK {
		return api.Reply{Code: e}, s, api.OK
	}
	return x, q.state, api.OK
}

// asking is a request that is answered: its state has the ledgers that have been reached.
type asking struct {
	request api.Request
	state   api.State
	commits []int
	told    [][]api.Told // for each commit
}

// tell asks for the answers that the reader is told for each commit.
func (q *asking) tell() (e api.Errno) {
	r := q.request
	if r.Kind < api.AskR || r.Kind > api.MergeR {
		return api.ErrRequest
	}
	at := slices.IndexFunc(q.state.Policies, func(p api.Policy) bool { return p.Reader == r.Reader })
	if at < 0 {
		return api.ErrReader
	}
	if q.commits, e = commitsOf(q.state, r); e != api.OK {
		return e
	}
	for _, no := range q.commits {
		l := store.Ledger(q.state, r.Reader, no)
		told, l, e := censor.Tell(q.state.Bases[no-1], q.state.Policies[at], l, r.Query)
		if e != api.OK {
			return e
		}
		q.told = append(q.told, told)
		q.setLedger(l)
	}
	return api.OK
}

// setLedger puts a ledger in its place; one without entries is not kept.
func (q *asking) setLedger(l api.Ledger) {
	if len(l.Entries) == 0 {
		return
	}
	at, found := slices.BinarySearchFunc(q.state.Ledgers, l, func(a, b api.Ledger) int {
		return cmp.Or(strings.Compare(a.Reader, b.Reader), cmp.Compare(a.Version, b.Version))
	})
	q.state.Ledgers = slices.Clone(q.state.Ledgers)
	if found {
		q.state.Ledgers[at] = l
	} else {
		q.state.Ledgers = slices.Insert(q.state.Ledgers, at, l)
	}
}

// reply returns the reply from what is told.
func (q *asking) reply() (x api.Reply, e api.Errno) {
	t := q.told[0]
	switch q.request.Kind {
	case api.AskR:
		x.More = t
	case api.CountR:
		x.Count = len(t)
	case api.WhyR:
		if x.Whys, e = q.why(); e != api.OK {
			return api.Reply{}, e
		}
	case api.DifferR:
		x.More, x.Less = reply.Split(t, q.told[1])
	case api.MergeR:
		x.More = minus(minus(t, q.told[1]), q.told[2])
		onlyFirst := minus(q.told[1], q.told[2])
		x.Less = minus(minus(q.told[1], onlyFirst), t)
	}
	for _, no := range q.commits {
		if ledger.Left(store.Ledger(q.state, q.request.Reader, no)) == 0 {
			x.Code = api.ErrLedger
		}
	}
	return x, api.OK
}

// minus returns the answers of a list that are not in another one.
func minus(a, b []api.Told) []api.Told {
	x, _ := reply.Split(a, b)
	return x
}

func (q *asking) why() (w []api.Why, e api.Errno) {
	if len(q.request.Query.Parts) != 1 || len(q.request.Query.Told) != 0 {
		return nil, api.ErrRequest
	}
	no := q.commits[0]
	open := base.Open(q.state.Bases[no-1])
	return censor.Why(open, store.Ledger(q.state, q.request.Reader, no), q.request.Query.Parts[0])
}

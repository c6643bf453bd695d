package twin

import (
	"slices"

	"veilstone/api"
	"veilstone/history"
	"veilstone/store"
)

// contributor returns what a step contributes to the script of a twin; ok is false if it is up to the next one.
type contributor func(s step, reader string, bases []api.Base) (l []api.Op, ok bool)

// contribution returns the operations that a step contributes; bases are the twin bases of all commits.
func contribution(s step, reader string, bases []api.Base) []api.Op {
	for _, c := range []contributor{committed, labelled, restricted, asked, lost} {
		if l, ok := c(s, reader, bases); ok {
			return l
		}
	}
	return nil
}

// committed is what a step contributes that makes a commit.
func committed(s step, _ string, bases []api.Base) (l []api.Op, ok bool) {
	n := len(s.after.History.Commits)
	if n == len(s.before.History.Commits) {
		return nil, false
	}
	c := s.after.History.Commits[n-1]
	at := slices.IndexFunc(s.after.History.Branches, func(r api.Ref) bool { return r.No == n })
	if at < 0 {
		return nil, false
	}
	o := api.Op{Kind: api.PutO, Name: s.after.History.Branches[at].Name, Message: c.Message, More: bases[n-1].Axioms}
	switch {
	case s.op.Kind == api.PutO:
		o.Version, o.Other = s.op.Version, s.op.Other
	case s.op.Kind == api.MergeO:
		o.Version, o.Other = o.Name, s.op.Version
	case len(c.Parents) > 0:
		o.Version = o.Name
	}
	return []api.Op{o}, true
}

// labelled is what a step contributes that makes a label.
func labelled(s step, _ string, _ []api.Base) (l []api.Op, ok bool) {
	a, b := s.before.History, s.after.History
	changed := !slices.Equal(a.Branches, b.Branches) || !slices.Equal(a.Tags, b.Tags)
	if (s.op.Kind == api.BranchO || s.op.Kind == api.TagO) && changed {
		return []api.Op{s.op}, true
	}
	return nil, false
}

// restricted is what a step contributes that sets the policy of the reader.
func restricted(s step, reader string, _ []api.Base) (l []api.Op, ok bool) {
	if s.op.Kind == api.PolicyO && s.op.Policy.Reader == reader && len(s.after.Policies) > len(s.before.Policies) {
		return []api.Op{s.op}, true
	}
	return nil, false
}

func isRequest(s step, reader string) bool {
	return s.op.Kind == api.AskO && s.op.Request.Reader == reader
}

// answered reports whether a step is a request of the reader that was answered.
func answered(s step, reader string) bool { return isRequest(s, reader) && s.outcome.Code == api.OK }

// asked is what a request contributes that was answered.
func asked(s step, reader string, _ []api.Base) (l []api.Op, ok bool) {
	if answered(s, reader) {
		return []api.Op{s.op}, true
	}
	return nil, false
}

// lost is what a request contributes whose reply was lost: the entries that reached the disk.
func lost(s step, reader string, _ []api.Base) (l []api.Op, ok bool) {
	if !isRequest(s, reader) {
		return nil, false
	}
	done := map[int]bool{}
	for _, label := range labels(s.op.Request) {
		no, e := history.Find(s.after.History, label)
		if e != api.OK || done[no] {
			continue
		}
		done[no] = true
		before, after := store.Ledger(s.before, reader, no), store.Ledger(s.after, reader, no)
		for _, x := range after.Entries[min(len(before.Entries), len(after.Entries)):] {
			r := api.Request{Kind: api.AskR, Reader: reader, Version: label, Query: api.Query{Parts: []api.Part{x.Part}}}
			l = append(l, api.Op{Kind: api.AskO, Request: r})
		}
	}
	return l, true
}

// labels returns labels of the commits of a request.
func labels(r api.Request) []string {
	switch r.Kind {
	case api.DifferR:
		return []string{r.Version, r.Other}
	case api.MergeR:
		return []string{r.Version, r.Version + "^", r.Version + "^2"}
	}
	return []string{r.Version}
}

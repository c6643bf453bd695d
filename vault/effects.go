package vault

import (
	"slices"
	"strings"

	"veilstone/api"
	"veilstone/base"
	"veilstone/canon"
	"veilstone/disk"
	"veilstone/entail"
	"veilstone/history"
	"veilstone/merge"
	"veilstone/objects"
	"veilstone/policy"
	"veilstone/rename"
	"veilstone/repair"
	"veilstone/reply"
	"veilstone/store"
	"veilstone/terms"
	"veilstone/tolerate"
)

// base returns the base of a commit.
func (c *change) base(no int) api.Base { return c.State.Bases[no-1] }

// find returns the commit of a label.
func (c *change) find(label string) int {
	no, e := history.Find(c.State.History, label)
	must(e)
	return no
}

func refAt(l []api.Ref, name string) int {
	return slices.IndexFunc(l, func(r api.Ref) bool { return r.Name == name })
}

// head returns the commit of a branch, which must exist.
func (c *change) head(branch string) int {
	at := refAt(c.State.History.Branches, branch)
	require(at >= 0, api.ErrVersion)
	return c.State.History.Branches[at].No
}

// without returns a base without the axioms for which a test holds.
func without(b api.Base, out func(i int, a api.Axiom) bool) (x api.Base) {
	for i, a := range b.Axioms {
		if !out(i, a) {
			x.Axioms = append(x.Axioms, a)
		}
	}
	return x
}

// commit commits a base to a branch; an alignment becomes part of the state together with it.
func (c *change) commit(b api.Base, branch, message string, parents []int, alignments ...api.Alignment) {
	c.examine(b)
	id, e := objects.ID(b)
	must(e)
	h, no, e := history.Add(c.State.History, parents, id, message)
	must(e)
	_, e = history.Branch(h, branch, no)
	must(e)
	s := api.State{Bases: []api.Base{b}, Alignments: alignments}
	s.History.Commits = h.Commits[no-1:]
	s.History.Branches = []api.Ref{{Name: branch, No: no}}
	kind := api.CommitS
	if len(alignments) > 0 {
		kind = api.AlignmentS
	}
	c.record(kind, s)
	c.outcome.Commit = no
}

// examine returns the errors of a base that is to be committed.
func (c *change) examine(b api.Base) {
	must(base.Check(b))
	open := base.Open(b)
	n, e := terms.Vocabulary(open.Axioms)
	must(e)
	// Only individuals may have names that begin with "_".
	for _, name := range n.Individuals {
		require(name[0] != '_', api.ErrName)
	}
	effective, e := tolerate.Effective(b)
	must(e)
	_, e = canon.Build(effective.Axioms)
	must(e)
	for _, p := range c.State.Policies {
		mustNotLead(open, p)
	}
}

// mustNotLead ends an operation if open axioms lead to a secret.
func mustNotLead(open api.Base, p api.Policy) {
	leads, e := policy.Leads(open, nil, p)
	must(e)
	require(!leads, api.ErrPolicy)
}

func (c *change) commitTo(o api.Op) {
	var b api.Base
	var parents []int
	if len(c.State.History.Commits) > 0 {
		head := c.head(o.Name)
		b, parents = c.base(head), []int{head}
	}
	out := map[int]bool{}
	for _, a := range o.Less {
		at, ok := base.Find(b, a)
		require(ok, api.ErrArg)
		out[at] = true
	}
	rest := without(b, func(i int, _ api.Axiom) bool { return out[i] })
	x, e := base.New(slices.Concat(rest.Axioms, o.More))
	must(e)
	c.commit(x, o.Name, o.Message, parents)
}

// label returns the commit of a label for a new name.
func (c *change) label(o api.Op) int {
	no := c.find(o.Version)
	require(refAt(c.State.History.Branches, o.Name) < 0 && refAt(c.State.History.Tags, o.Name) < 0, api.ErrTaken)
	return no
}

func (c *change) branch(o api.Op) {
	no := c.label(o)
	_, e := history.Branch(c.State.History, o.Name, no)
	must(e)
	var s api.State
	s.History.Branches = []api.Ref{{Name: o.Name, No: no}}
	c.record(api.BranchS, s)
}

func (c *change) tag(o api.Op) {
	no := c.label(o)
	_, e := history.Tag(c.State.History, o.Name, no)
	must(e)
	var s api.State
	s.History.Tags = []api.Ref{{Name: o.Name, No: no}}
	c.record(api.TagS, s)
}

func (c *change) merge(o api.Op) {
	head := c.head(o.Name)
	no := c.find(o.Version)
	ancestors, e := history.Ancestors(c.State.History, head)
	must(e)
	require(!slices.Contains(ancestors, no), api.ErrState)
	common, e := history.Common(c.State.History, head, no)
	must(e)
	var olds []api.Base
	for _, n := range common {
		olds = append(olds, c.base(n))
	}
	b, e := merge.Many(olds, c.base(head), c.base(no))
	must(e)
	c.commit(b, o.Name, o.Message, []int{head, no})
}

func (c *change) put(o api.Op) {
	var parents []int
	for _, label := range []string{o.Version, o.Other} {
		if label != "" {
			parents = append(parents, c.find(label))
		}
	}
	b, e := base.New(o.More)
	must(e)
	c.commit(b, o.Name, o.Message, parents)
}

func (c *change) policy(o api.Op) {
	taken := slices.ContainsFunc(c.State.Policies, func(p api.Policy) bool { return p.Reader == o.Policy.Reader })
	require(!taken, api.ErrTaken)
	require(len(c.State.Policies) < api.MaxReaders, api.ErrLimit)
	must(policy.Check(o.Policy, nil))
	for _, b := range c.State.Bases {
		mustNotLead(base.Open(b), o.Policy)
	}
	c.record(api.PolicyS, api.State{Policies: []api.Policy{o.Policy}})
}

func (c *change) ask(o api.Op) {
	x, s, e := Ask(c.State, o.Request)
	must(e)
	b, e := reply.Encode(x)
	must(e)
	commits, _ := commitsOf(c.State, o.Request)
	done := map[int]bool{}
	for _, no := range commits {
		if done[no] {
			continue
		}
		done[no] = true
		before, l := store.Ledger(c.State, o.Request.Reader, no), store.Ledger(s, o.Request.Reader, no)
		for _, entry := range l.Entries[len(before.Entries):] {
			l.Entries = []api.Entry{entry}
			c.record(api.EntryS, api.State{Ledgers: []api.Ledger{l}})
		}
	}
	c.outcome.Reply = b
}

func (c *change) other(o api.Op) {
	x := o.Vocabulary
	must(base.Check(x.Base))
	must(rename.Check(x.Renamings))
	isName := terms.CheckName(x.Name) == api.OK && x.Name[0] != '_' && !strings.Contains(x.Name, ":")
	require(isName && x.No == len(c.versions(x.Name))+1, api.ErrArg)
	c.record(api.OtherS, api.State{Others: []api.Other{x}})
}

// versions returns the published versions of a vocabulary.
func (c *change) versions(name string) (l []api.Other) {
	for _, x := range c.State.Others {
		if x.Name == name {
			l = append(l, x)
		}
	}
	return l
}

func (c *change) crash(o api.Op) {
	require(o.N >= 0 && o.N <= api.MaxSectors && o.Tear >= 0 && o.Tear <= api.SectorSize, api.ErrArg)
	d, e := disk.Stop(c.Disk, o.N, o.Tear)
	must(e)
	c.Disk = d
}

func (c *change) repair(o api.Op) {
	head := c.head(o.Name)
	b := c.base(head)
	consistent, e := entail.Consistent(b)
	must(e)
	require(!consistent, api.ErrState)
	var open []int
	for i, a := range b.Axioms {
		if a.Open {
			open = append(open, i)
		}
	}
	sets, e := repair.Clash(b, open, 1)
	must(e)
	require(len(sets) > 0, api.ErrState)
	x, e := repair.Apply(b, sets[0])
	must(e)
	c.commit(x, o.Name, o.Message, []int{head})
}

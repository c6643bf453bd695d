package store

import (
	"bytes"
	"slices"

	"veilstone/api"
	"veilstone/history"
	"veilstone/ledger"
	"veilstone/objects"
	"veilstone/policy"
	"veilstone/query"
)

// unfit is what the reader of records panics with.
type unfit struct{}

func require(ok bool) {
	if !ok {
		panic(unfit{})
	}
}

// reader reads a record.
type reader struct{ rest []byte }

func (r *reader) take(n int) []byte {
	require(n <= len(r.rest))
	b := r.rest[:n:n]
	r.rest = r.rest[n:]
	return b
}

func (r *reader) number(bytes int) (n int) {
	for _, b := range r.take(bytes) {
		n = n<<8 | int(b)
	}
	return n
}

func (r *reader) text() string  { return string(r.block()) }
func (r *reader) block() []byte { return r.take(r.number(4)) }

// block decodes a block.
func block[T any](r *reader, decode func([]byte) (T, api.Errno)) T {
	x, e := decode(r.block())
	require(e == api.OK)
	return x
}

func (r *reader) commit(s *api.State) {
	name := r.text()
	c := block(r, objects.ReadCommit)
	s.History.Commits = []api.Commit{c}
	s.Bases = []api.Base{{Axioms: block(r, objects.ReadAxioms)}}
	if name != "" {
		s.History.Branches = []api.Ref{{Name: name, No: c.No}}
	}
}

func (r *reader) policy() (p api.Policy) {
	p.Reader = r.text()
	for range r.number(4) {
		p.Secrets = append(p.Secrets, block(r, objects.ReadQuery))
	}
	return p
}

func (r *reader) entry() (l api.Ledger) {
	reader, version, x, e := ledger.Decode(r.take(len(r.rest)))
	require(e == api.OK)
	return api.Ledger{Reader: reader, Version: version, Entries: []api.Entry{x}}
}

func (r *reader) other() (o api.Other) {
	o.Name, o.No = r.text(), r.number(8)
	o.Base.Axioms = block(r, objects.ReadAxioms)
	for range r.number(4) {
		o.Renamings = append(o.Renamings, api.Renaming{Kind: r.number(1), Old: r.text(), New: r.text()})
	}
	return o
}

// change reads a record, which must be the one of the change that it returns.
func change(b []byte) (kind int, s api.State) {
	require(len(b) <= api.MaxRecord)
	r := &reader{rest: b}
	kind = r.number(1)
	switch kind {
	case api.CommitS:
		r.commit(&s)
	case api.BranchS:
		s.History.Branches = []api.Ref{{Name: r.text(), No: r.number(8)}}
	case api.TagS:
		s.History.Tags = []api.Ref{{Name: r.text(), No: r.number(8)}}
	case api.PolicyS:
		s.Policies = []api.Policy{r.policy()}
	case api.EntryS:
		s.Ledgers = []api.Ledger{r.entry()}
	case api.AlignmentS:
		s.Alignments = []api.Alignment{block(r, objects.ReadAlignment)}
		if r.number(1) == 1 {
			r.commit(&s)
		}
	case api.OtherS:
		s.Others = []api.Other{r.other()}
	}
	again, e := Encode(kind, s)
	require(e == api.OK && bytes.Equal(again, b))
	return kind, s
}

// Apply returns the state after the change of a record.
func Apply(s api.State, b []byte) (x api.State, e api.Errno) {
	defer func() {
		if recover() != nil {
			x, e = api.State{}, api.ErrStore
		}
	}()
	kind, c := change(b)
	effects := [8]func(s, c api.State) api.State{
		api.CommitS: withCommit, api.BranchS: withBranch, api.TagS: withTag, api.PolicyS: withPolicy,
		api.EntryS: withEntry, api.AlignmentS: withAlignment, api.OtherS: withOther,
	}
	return effects[kind](s, c), api.OK
}

// added returns a list with a further element.
func added[T any](l []T, x T) []T { return append(slices.Clip(l), x) }

func withCommit(s, c api.State) api.State {
	commit := c.History.Commits[0]
	h, no, e := history.Add(s.History, commit.Parents, commit.Base, commit.Message)
	require(e == api.OK && no == commit.No)
	id, e := objects.ID(c.Bases[0])
	require(e == api.OK && id == commit.Base)
	s.History = h
	s.Bases = added(s.Bases, c.Bases[0])
	if len(c.History.Branches) == 1 {
		s = withBranch(s, c)
	}
	return s
}

func withBranch(s, c api.State) api.State {
	r := c.History.Branches[0]
	h, e := history.Branch(s.History, r.Name, r.No)
	require(e == api.OK)
	s.History = h
	return s
}

func withTag(s, c api.State) api.State {
	r := c.History.Tags[0]
	h, e := history.Tag(s.History, r.Name, r.No)
	require(e == api.OK)
	s.History = h
	return s
}

func withPolicy(s, c api.State) api.State {
	p := c.Policies[0]
	require(policy.Check(p, nil) == api.OK && !hasPolicy(s, p.Reader) && len(s.Policies) < api.MaxReaders)
	s.Policies = added(s.Policies, p)
	return s
}

func withEntry(s, c api.State) api.State {
	l, x := Ledger(s, c.Ledgers[0].Reader, c.Ledgers[0].Version), c.Ledgers[0].Entries[0]
	require(hasPolicy(s, l.Reader) && hasCommit(s, l.Version))
	require(x.No == len(l.Entries)+1 && x.No <= api.MaxEntries)
	// The entries that are there are valid; ledger.Check would examine them again.
	q, e := query.Rename(api.Query{Parts: []api.Part{x.Part}})
	require(e == api.OK && samePart(q.Parts[0], x.Part))
	require(!slices.ContainsFunc(l.Entries, func(y api.Entry) bool { return samePart(x.Part, y.Part) }))
	l.Entries = added(l.Entries, x)
	at, found := slices.BinarySearchFunc(s.Ledgers, l, compareLedgers)
	s.Ledgers = slices.Clone(s.Ledgers)
	if found {
		s.Ledgers[at] = l
	} else {
		s.Ledgers = slices.Insert(s.Ledgers, at, l)
	}
	return s
}

func withAlignment(s, c api.State) api.State {
	a := c.Alignments[0]
	require(isName(a.Name))
	if len(c.History.Commits) == 1 {
		s = withCommit(s, c)
	}
	at := slices.IndexFunc(s.Alignments, func(b api.Alignment) bool { return b.Name == a.Name })
	if at < 0 {
		s.Alignments = added(s.Alignments, a)
		return s
	}
	s.Alignments = slices.Clone(s.Alignments)
	s.Alignments[at] = a
	return s
}

func withOther(s, c api.State) api.State {
	require(isOther(c.Others[0], s.Others))
	s.Others = added(s.Others, c.Others[0])
	return s
}

// Replay returns the state to which records lead.
func Replay(l [][]byte) (s api.State, e api.Errno) {
	for _, b := range l {
		if s, e = Apply(s, b); e != api.OK {
			return api.State{}, e
		}
	}
	return s, api.OK
}

package store

import (
	"veilstone/api"
	"veilstone/ledger"
	"veilstone/objects"
)

// maxRenamings is the greatest number of renamings of a version.
const maxRenamings = 1024

// shape says how many of each thing are present in a change: commits, bases, branches, tags, policies, ledgers, alignments and other versions.
type shape [8]int

// shapes returns the shapes that the changes of each kind can have.
func shapes() [8][2]shape {
	return [8][2]shape{
		api.CommitS:    {{1, 1}, {1, 1, 1}},
		api.BranchS:    {{0, 0, 1}},
		api.TagS:       {{0, 0, 0, 1}},
		api.PolicyS:    {{0, 0, 0, 0, 1}},
		api.EntryS:     {{0, 0, 0, 0, 0, 1}},
		api.AlignmentS: {{0, 0, 0, 0, 0, 0, 1}, {1, 1, 1, 0, 0, 0, 1}},
		api.OtherS:     {{0, 0, 0, 0, 0, 0, 0, 1}},
	}
}

func shapeOf(s api.State) shape {
	return shape{len(s.History.Commits), len(s.Bases), len(s.History.Branches), len(s.History.Tags),
		len(s.Policies), len(s.Ledgers), len(s.Alignments), len(s.Others)}
}

// isChange reports whether a state is a change of a kind.
func isChange(kind int, s api.State) bool {
	if kind < api.CommitS || kind > api.OtherS {
		return false
	}
	x := shapeOf(s)
	if x == (shape{}) {
		return false
	}
	h := s.History
	if len(h.Commits) == 1 && len(h.Branches) == 1 && h.Branches[0].No != h.Commits[0].No {
		return false
	}
	if kind == api.EntryS && (len(s.Ledgers) != 1 || len(s.Ledgers[0].Entries) != 1) {
		return false
	}
	l := shapes()[kind]
	return x == l[0] || x == l[1]
}

// writer collects the bytes of a record, the first error of a part, and whether what has no error of its own is valid.
type writer struct {
	bytes []byte
	e     api.Errno
	bad   bool
}

func (w *writer) byte(n int) { w.bytes = append(w.bytes, byte(n)) }

func (w *writer) number(n, bytes int) {
	for i := bytes - 1; i >= 0; i-- {
		w.bytes = append(w.bytes, byte(uint64(n)>>(8*i)))
	}
}

func (w *writer) text(s string) {
	w.require(len(s) <= api.MaxName)
	w.number(len(s), 4)
	w.bytes = append(w.bytes, s...)
}

// long writes a number that must be positive and not too great.
func (w *writer) long(n int) {
	w.require(n >= 1 && n <= api.MaxNumber)
	w.number(n, 8)
}

func (w *writer) require(ok bool) { w.bad = w.bad || !ok }

// block writes an encoding with its length.
func (w *writer) block(b []byte, e api.Errno) {
	w.fail(e)
	w.number(len(b), 4)
	w.bytes = append(w.bytes, b...)
}

func (w *writer) fail(e api.Errno) {
	if w.e == api.OK {
		w.e = e
	}
}

func (w *writer) commit(s api.State) {
	name := ""
	if len(s.History.Branches) == 1 {
		name = s.History.Branches[0].Name
		w.require(name != "")
	}
	w.text(name)
	w.block(objects.Commit(s.History.Commits[0]))
	w.block(objects.Axioms(s.Bases[0].Axioms))
}

func (w *writer) ref(r api.Ref) {
	w.require(r.Name != "")
	w.text(r.Name)
	w.long(r.No)
}

func (w *writer) policy(p api.Policy) {
	w.text(p.Reader)
	w.require(len(p.Secrets) <= api.MaxSecrets)
	w.number(len(p.Secrets), 4)
	for _, q := range p.Secrets {
		w.block(objects.Query(q))
	}
}

func (w *writer) entry(l api.Ledger) {
	b, e := ledger.Encode(l.Reader, l.Version, l.Entries[0])
	w.fail(e)
	w.bytes = append(w.bytes, b...)
}

func (w *writer) alignment(s api.State) {
	w.block(objects.Alignment(s.Alignments[0]))
	if len(s.History.Commits) == 0 {
		w.byte(0)
		return
	}
	w.byte(1)
	w.commit(s)
}

func (w *writer) other(o api.Other) {
	w.text(o.Name)
	w.long(o.No)
	w.block(objects.Axioms(o.Base.Axioms))
	w.require(len(o.Renamings) <= maxRenamings)
	w.number(len(o.Renamings), 4)
	for _, r := range o.Renamings {
		w.require(r.Kind >= 0 && r.Kind <= 255)
		w.byte(r.Kind)
		w.text(r.Old)
		w.text(r.New)
	}
}

// Encode encodes a change as a record.
func Encode(kind int, s api.State) (b []byte, e api.Errno) {
	if !isChange(kind, s) {
		return nil, api.ErrArg
	}
	w := &writer{}
	w.byte(kind)
	switch kind {
	case api.CommitS:
		w.commit(s)
	case api.BranchS:
		w.ref(s.History.Branches[0])
	case api.TagS:
		w.ref(s.History.Tags[0])
	case api.PolicyS:
		w.policy(s.Policies[0])
	case api.EntryS:
		w.entry(s.Ledgers[0])
	case api.AlignmentS:
		w.alignment(s)
	case api.OtherS:
		w.other(s.Others[0])
	}
	switch {
	case w.e != api.OK:
		return nil, w.e
	case w.bad:
		return nil, api.ErrArg
	case len(w.bytes) > api.MaxRecord:
		return nil, api.ErrLimit
	}
	return w.bytes, api.OK
}

package store

import (
	"slices"

	"veilstone/api"
	"veilstone/base"
)

// equal reports whether two lists have equal elements.
func equal[T any](a, b []T, same func(T, T) bool) bool { return slices.EqualFunc(a, b, same) }

// Same reports whether two states are equal in all fields.
func Same(a, b api.State) (same bool) {
	return equal(a.History.Commits, b.History.Commits, sameCommit) &&
		slices.Equal(a.History.Branches, b.History.Branches) && slices.Equal(a.History.Tags, b.History.Tags) &&
		equal(a.Bases, b.Bases, base.Same) && equal(a.Policies, b.Policies, samePolicy) && equal(a.Ledgers, b.Ledgers, sameLedger) &&
		equal(a.Alignments, b.Alignments, sameAlignment) && equal(a.Others, b.Others, sameOther)
}

func sameCommit(a, b api.Commit) bool {
	return a.No == b.No && slices.Equal(a.Parents, b.Parents) && a.Base == b.Base && a.Message == b.Message
}

func samePart(a, b api.Part) bool { return slices.Equal(a.Atoms, b.Atoms) }

func sameQuery(a, b api.Query) bool {
	return slices.Equal(a.Told, b.Told) && equal(a.Parts, b.Parts, samePart)
}

func samePolicy(a, b api.Policy) bool {
	return a.Reader == b.Reader && equal(a.Secrets, b.Secrets, sameQuery)
}

func sameLedger(a, b api.Ledger) bool {
	return a.Reader == b.Reader && a.Version == b.Version && equal(a.Entries, b.Entries, func(x, y api.Entry) bool {
		return x.No == y.No && samePart(x.Part, y.Part)
	})
}

func sameAlignment(a, b api.Alignment) bool {
	return a.Name == b.Name && a.Base == b.Base && base.Same(api.Base{Axioms: a.Axioms}, api.Base{Axioms: b.Axioms}) &&
		a.Public == b.Public && a.Sig.Index == b.Sig.Index && slices.Equal(a.Sig.Parts, b.Sig.Parts) && slices.Equal(a.Sig.Path, b.Sig.Path)
}

func sameOther(a, b api.Other) bool {
	return a.Name == b.Name && a.No == b.No && base.Same(a.Base, b.Base) && slices.Equal(a.Renamings, b.Renamings)
}

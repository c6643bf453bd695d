package store_test

import (
	"bytes"
	"math/rand"
	"reflect"
	"slices"
	"strconv"
	"strings"
	"testing"

	"veilstone/api"
	"veilstone/base"
	"veilstone/ledger"
	"veilstone/objects"
	"veilstone/sample"
	"veilstone/store"
)

func count(n int) []byte   { return []byte{byte(n >> 24), byte(n >> 16), byte(n >> 8), byte(n)} }
func text(s string) []byte { return append(count(len(s)), s...) }
func number(n int) []byte  { return append(count(n>>32), count(n)...) }
func cat(l ...[]byte) []byte {
	return bytes.Join(l, nil)
}
func block(b []byte, e api.Errno) []byte {
	if e != api.OK {
		panic(e)
	}
	return append(count(len(b)), b...)
}

// commit makes the change of a commit, with a branch if it has a name.
func commit(no int, branch, axioms string, parents ...int) (s api.State) {
	b := sample.Base(axioms)
	id, _ := objects.ID(b)
	s.History.Commits = []api.Commit{{No: no, Parents: parents, Base: id, Message: "m" + strconv.Itoa(no)}}
	s.Bases = []api.Base{b}
	if branch != "" {
		s.History.Branches = []api.Ref{{Name: branch, No: no}}
	}
	return s
}

func branch(name string, no int) (s api.State) {
	s.History.Branches = []api.Ref{{Name: name, No: no}}
	return s
}

func tag(name string, no int) (s api.State) {
	s.History.Tags = []api.Ref{{Name: name, No: no}}
	return s
}

func policy(reader string, secrets ...string) (s api.State) {
	p := api.Policy{Reader: reader}
	for _, q := range secrets {
		p.Secrets = append(p.Secrets, sample.Query(q))
	}
	s.Policies = []api.Policy{p}
	return s
}

func entry(reader string, version, no int, part string) api.State {
	return api.State{Ledgers: []api.Ledger{{Reader: reader, Version: version, Entries: []api.Entry{{No: no, Part: sample.Part(part)}}}}}
}

func alignment(name string) api.State {
	return api.State{Alignments: []api.Alignment{{Name: name, Axioms: sample.Axioms("A sub p:X."), Sig: api.Signature{Index: 3}}}}
}

func other(name string, no int, axioms string, renamings ...api.Renaming) api.State {
	return api.State{Others: []api.Other{{Name: name, No: no, Base: sample.Base(axioms), Renamings: renamings}}}
}

func with(a, b api.State) api.State {
	a.History, a.Bases = b.History, b.Bases
	return a
}

// P43.1
func TestEncode(t *testing.T) {
	c := commit(2, "main", "A sub B.", 1)
	body := cat(text("main"), block(objects.Commit(c.History.Commits[0])), block(objects.Axioms(c.Bases[0].Axioms)))
	al := alignment("al")
	o := other("p", 1, "X sub Y.", api.Renaming{Kind: 1, Old: "A", New: "B"})
	e := entry("ann", 1, 2, "A(?v1)")
	for k, x := range []struct {
		kind int
		s    api.State
		want []byte
	}{
		{api.CommitS, c, cat([]byte{1}, body)}, {api.CommitS, commit(1, "", ""), cat([]byte{1}, text(""), block(objects.Commit(commit(1, "", "").History.Commits[0])), block(objects.Axioms(nil)))}, {api.BranchS, branch("b", 1<<40), cat([]byte{2}, text("b"), number(1<<40))}, {api.TagS, tag("v1", 3), []byte{3, 0, 0, 0, 2, 'v', '1', 0, 0, 0, 0, 0, 0, 0, 3}}, {api.PolicyS, policy("ann", "select where A(a)"), cat([]byte{4}, text("ann"), count(1), block(objects.Query(sample.Query("select where A(a)"))))}, {api.EntryS, e, cat([]byte{5}, block(ledger.Encode("ann", 1, e.Ledgers[0].Entries[0]))[4:])},
		{api.AlignmentS, al, cat([]byte{6}, block(objects.Alignment(al.Alignments[0])), []byte{0})}, {api.AlignmentS, with(al, c), cat([]byte{6}, block(objects.Alignment(al.Alignments[0])), []byte{1}, body)}, {api.OtherS, o, cat([]byte{7}, text("p"), number(1), block(objects.Axioms(o.Others[0].Base.Axioms)), count(1), []byte{1}, text("A"), text("B"))},
	} {
		if b, e := store.Encode(x.kind, x.s); e != api.OK || !bytes.Equal(b, x.want) {
			t.Errorf("case %d: %v, %d, want %v", k, b, e, x.want)
		}
	}
}

// P43.1
func TestEncodeErrors(t *testing.T) {
	c := commit(2, "main", "A sub B.", 1)
	change := func(s api.State, f func(s *api.State)) api.State {
		f(&s)
		return s
	}
	twoEntries := entry("ann", 1, 1, "A(a)")
	twoEntries.Ledgers[0].Entries = append(twoEntries.Ledgers[0].Entries, api.Entry{No: 2})
	moved := commit(2, "main", "", 1)
	moved.History.Branches[0].No = 1
	noBranch := commit(2, "", "")
	long := strings.Repeat("n", 25)
	var many []api.Axiom
	for i := range 1000 {
		many = append(many, sample.Axiom("type a"+strconv.Itoa(i)+" A"))
	}
	wide, _ := base.New(many)
	large := commit(1, "", "")
	large.Bases[0] = wide
	for k, x := range []struct {
		kind int
		s    api.State
		e    api.Errno
	}{
		{0, c, api.ErrArg}, {8, api.State{}, api.ErrArg}, {-1, c, api.ErrArg}, {1, api.State{}, api.ErrArg}, {2, c, api.ErrArg}, {1, branch("b", 1), api.ErrArg}, {2, tag("b", 1), api.ErrArg}, {1, moved, api.ErrArg}, {6, with(alignment("a"), noBranch), api.ErrArg}, {6, with(alignment("a"), moved), api.ErrArg}, {5, twoEntries, api.ErrArg}, {5, api.State{Ledgers: []api.Ledger{{Reader: "ann", Version: 1}}}, api.ErrArg}, {1, change(c, func(s *api.State) { s.Policies = make([]api.Policy, 1) }), api.ErrArg}, {1, change(c, func(s *api.State) { s.Bases = nil }), api.ErrArg}, {2, api.State{History: api.History{Branches: make([]api.Ref, 2)}}, api.ErrArg},
		{1, change(c, func(s *api.State) {
			s.History.Commits = []api.Commit{{No: 9999}}
			s.History.Branches = []api.Ref{{No: 9999}}
			s.Bases = []api.Base{{Axioms: []api.Axiom{{}}}}
		}), api.ErrArg}, {1, change(commit(1, "", ""), func(s *api.State) { s.Bases = []api.Base{{Axioms: []api.Axiom{{}}}} }), api.ErrAxiom}, {1, change(c, func(s *api.State) {
			s.History.Branches = []api.Ref{{Name: long, No: 2}}
			s.Bases = []api.Base{{Axioms: []api.Axiom{{}}}}
		}), api.ErrAxiom}, {1, change(c, func(s *api.State) { s.History.Branches = []api.Ref{{Name: long, No: 2}} }), api.ErrArg}, {1, change(c, func(s *api.State) { s.History.Branches = []api.Ref{{No: 2}} }), api.ErrArg},
		{2, branch("", 1), api.ErrArg}, {2, branch(long, 1), api.ErrArg}, {2, branch("b", 0), api.ErrArg}, {2, branch("b", 1<<40+1), api.ErrArg}, {2, branch("3 ?", 7), api.OK}, {3, tag("", 1), api.ErrArg}, {3, tag("b", -1), api.ErrArg}, {4, policy(long), api.ErrArg}, {4, policy(""), api.OK}, {4, api.State{Policies: []api.Policy{{Reader: long, Secrets: make([]api.Query, 17)}}}, api.ErrQuery}, {4, policy("ann", slices.Repeat([]string{"select where A(a)"}, 17)...), api.ErrArg}, {4, policy("ann", slices.Repeat([]string{"select where A(a)"}, 16)...), api.OK}, {5, entry("", 1, 1, "A(a)"), api.ErrArg}, {5, entry("ann", 1025, 1, "A(a)"), api.ErrArg},
		{6, alignment(long), api.ErrArg}, {6, api.State{Alignments: []api.Alignment{{Axioms: []api.Axiom{{}}}}}, api.ErrAxiom}, {7, other("", 1, ""), api.OK}, {7, other(long, 1, ""), api.ErrArg}, {7, other("p", 0, ""), api.ErrArg}, {7, other("p", 1, "", make([]api.Renaming, 1025)...), api.ErrArg}, {7, other("p", 1, "", make([]api.Renaming, 1024)...), api.OK}, {7, other("p", 1, "", api.Renaming{Kind: 256}), api.ErrArg}, {7, other("p", 1, "", api.Renaming{Kind: -1}), api.ErrArg}, {7, other("p", 1, "", api.Renaming{Old: long}), api.ErrArg}, {7, other("p", 1, "", api.Renaming{New: long}), api.ErrArg}, {7, api.State{Others: []api.Other{{Name: long, Base: api.Base{Axioms: []api.Axiom{{}}}}}}, api.ErrAxiom},
		{1, large, api.ErrLimit},
	} {
		if b, e := store.Encode(x.kind, x.s); e != x.e || e != api.OK && b != nil {
			t.Errorf("case %d: %d, want %d", k, e, x.e)
		}
	}
}

// step is a change of a kind.
type step struct {
	kind int
	s    api.State
}

func encode(t *testing.T, l ...step) (records [][]byte) {
	t.Helper()
	for k, x := range l {
		b, e := store.Encode(x.kind, x.s)
		if e != api.OK {
			t.Fatal(k, e)
		}
		records = append(records, b)
	}
	return records
}

// script leads to a state with everything.
var script = []step{
	{api.CommitS, commit(1, "main", "A sub B.")}, {api.CommitS, commit(2, "main", "A sub B. type a A.", 1)}, {api.CommitS, commit(3, "", "B sub C.")}, {api.BranchS, branch("dev", 3)}, {api.BranchS, branch("main", 1)}, {api.TagS, tag("v1", 2)}, {api.PolicyS, policy("bob", "select where A(a)")}, {api.PolicyS, policy("ann")}, {api.EntryS, entry("bob", 2, 1, "A(?v1)")}, {api.EntryS, entry("ann", 3, 1, "A(?v1)")}, {api.EntryS, entry("ann", 1, 1, "A(?v1)")}, {api.EntryS, entry("ann", 3, 2, "B(b)")},
	{api.AlignmentS, alignment("al")}, {api.AlignmentS, with(alignment("bl"), commit(4, "main", "C sub D.", 1, 3))}, {api.AlignmentS, alignment("al")}, {api.OtherS, other("p", 1, "X sub Y.")}, {api.OtherS, other("q", 1, "")}, {api.OtherS, other("p", 2, "X sub Z.", api.Renaming{Kind: 1, Old: "Y", New: "Z"})},
}

func whole(t *testing.T) api.State {
	t.Helper()
	s, e := store.Replay(encode(t, script...))
	if e != api.OK {
		t.Fatal(e)
	}
	return s
}

// P43.2
func TestReplay(t *testing.T) {
	s := whole(t)
	want := api.State{
		History:    api.History{Commits: []api.Commit{script[0].s.History.Commits[0], script[1].s.History.Commits[0], script[2].s.History.Commits[0], script[13].s.History.Commits[0]}, Branches: []api.Ref{{Name: "dev", No: 3}, {Name: "main", No: 4}}, Tags: []api.Ref{{Name: "v1", No: 2}}},
		Bases:      []api.Base{sample.Base("A sub B."), sample.Base("A sub B. type a A."), sample.Base("B sub C."), sample.Base("C sub D.")},
		Policies:   []api.Policy{policy("bob", "select where A(a)").Policies[0], {Reader: "ann"}},
		Ledgers:    []api.Ledger{entry("ann", 1, 1, "A(?v1)").Ledgers[0], {Reader: "ann", Version: 3, Entries: []api.Entry{{No: 1, Part: sample.Part("A(?v1)")}, {No: 2, Part: sample.Part("B(b)")}}}, entry("bob", 2, 1, "A(?v1)").Ledgers[0]},
		Alignments: []api.Alignment{alignment("al").Alignments[0], alignment("bl").Alignments[0]}, Others: []api.Other{script[15].s.Others[0], script[16].s.Others[0], script[17].s.Others[0]},
	}
	if !store.Same(s, want) || store.Check(s) != api.OK {
		t.Errorf("%v\n%v", s, want)
	}
	if s, e := store.Replay(nil); e != api.OK || !store.Same(s, api.State{}) {
		t.Error(e)
	}
	records := encode(t, script...)
	if s, e := store.Replay(append(slices.Clone(records), nil)); e != api.ErrStore || s.Bases != nil {
		t.Error(e)
	}
	for n := range records {
		first, _ := store.Replay(records[:n])
		x, e := store.Apply(first, records[n])
		next, _ := store.Replay(records[:n+1])
		if e != api.OK || !store.Same(x, next) || store.Check(x) != api.OK {
			t.Fatal(n, e)
		}
		if again, _ := store.Replay(records[:n]); !store.Same(first, again) {
			t.Fatal("Apply has changed its argument", n)
		}
	}
}

// P43.2
func TestApplyErrors(t *testing.T) {
	s := whole(t)
	wrongID := commit(5, "", "A sub B.")
	wrongID.Bases[0] = sample.Base("B sub A.")
	badMessage := commit(5, "", "")
	badMessage.History.Commits[0].Message = "\n"
	unsorted := commit(5, "", "")
	unsorted.Bases[0] = api.Base{Axioms: sample.Axioms("B sub A. A sub B.")}
	notTidy := other("p", 3, "")
	notTidy.Others[0].Base = unsorted.Bases[0]
	for k, x := range []step{
		{api.CommitS, commit(6, "", "")}, {api.CommitS, commit(4, "", "")}, {api.CommitS, commit(5, "v1", "")}, {api.CommitS, commit(5, "a b", "")}, {api.CommitS, wrongID}, {api.CommitS, badMessage}, {api.CommitS, unsorted}, {api.BranchS, branch("v1", 1)}, {api.BranchS, branch("x", 5)}, {api.BranchS, branch("_x", 1)}, {api.TagS, tag("v1", 1)}, {api.TagS, tag("main", 1)}, {api.TagS, tag("x", 5)}, {api.PolicyS, policy("ann")}, {api.PolicyS, policy("")}, {api.PolicyS, policy("p:x")},
		{api.EntryS, entry("eve", 1, 1, "A(a)")}, {api.EntryS, entry("ann", 5, 1, "A(a)")}, {api.EntryS, entry("ann", 1, 1, "A(a)")}, {api.EntryS, entry("ann", 1, 3, "A(a)")}, {api.EntryS, entry("ann", 1, 2, "A(?v1)")}, {api.EntryS, entry("ann", 1, 2, "A(?x)")}, {api.EntryS, entry("ann", 1, 2, "B(a) and A(a)")}, {api.AlignmentS, alignment("")}, {api.AlignmentS, alignment("p:x")}, {api.AlignmentS, alignment("_x")}, {api.AlignmentS, with(alignment("x"), commit(6, "main", ""))}, {api.AlignmentS, with(alignment("x"), commit(5, "v1", ""))}, {api.OtherS, other("p", 4, "")}, {api.OtherS, other("p", 2, "")}, {api.OtherS, other("z", 2, "")}, {api.OtherS, other("", 1, "")}, {api.OtherS, other("a:b", 1, "")}, {api.OtherS, other("p", 3, "", api.Renaming{Kind: 1, Old: "A", New: "A"})}, {api.OtherS, notTidy},
	} {
		b := encode(t, x)[0]
		if y, e := store.Apply(s, b); e != api.ErrStore || y.Bases != nil {
			t.Errorf("case %d: %d", k, e)
		}
	}
	if y, e := store.Apply(api.State{}, encode(t, step{api.BranchS, branch("b", 1)})[0]); e != api.ErrStore || y.Bases != nil {
		t.Error(e)
	}
	for _, b := range [][]byte{nil, {}, {0}, {8}, {255, 255}, make([]byte, api.MaxRecord+1)} {
		if y, e := store.Apply(s, b); e != api.ErrStore || y.Bases != nil {
			t.Error(e)
		}
	}
	// Records that are cut off, longer or changed.
	r := rand.New(rand.NewSource(1))
	records := encode(t, script...)
	for n, b := range records {
		before, _ := store.Replay(records[:n])
		for i := range b {
			if _, e := store.Apply(before, b[:i]); e != api.ErrStore {
				t.Fatal("cut off", n, i)
			}
		}
		if _, e := store.Apply(before, append(slices.Clone(b), 0)); e != api.ErrStore {
			t.Fatal("longer", n)
		}
		for range 200 {
			c := slices.Clone(b)
			c[r.Intn(len(c))] = byte(r.Intn(256))
			if y, e := store.Apply(before, c); e == api.OK && store.Check(y) != api.OK {
				t.Fatal("not a state", n, c)
			}
		}
	}
	// 32 readers, and a full ledger.
	var l []step
	for i := range 32 {
		l = append(l, step{api.PolicyS, policy("r" + strconv.Itoa(i))})
	}
	full, e := store.Replay(encode(t, l...))
	if e != api.OK || len(full.Policies) != 32 {
		t.Error(e)
	}
	if _, e := store.Apply(full, encode(t, step{api.PolicyS, policy("x")})[0]); e != api.ErrStore {
		t.Error(e)
	}
	l = []step{{api.PolicyS, policy("ann")}, {api.CommitS, commit(1, "main", "")}}
	for i := range 1024 {
		l = append(l, step{api.EntryS, entry("ann", 1, i+1, "A(a"+strconv.Itoa(i)+")")})
	}
	if full, e = store.Replay(encode(t, l...)); e != api.OK || len(full.Ledgers[0].Entries) != 1024 || store.Check(full) != api.OK {
		t.Error(e)
	}
}

// P43.3
func TestRecordsCheck(t *testing.T) {
	s := whole(t)
	l, e := store.Records(s)
	if e != api.OK || len(l) != 4+2+1+2+4+2+3 {
		t.Fatal(len(l), e)
	}
	want := encode(t, step{api.CommitS, commit(1, "", "A sub B.")}, step{api.BranchS, branch("dev", 3)}, step{api.OtherS, script[17].s})
	if !bytes.Equal(l[0], want[0]) || !bytes.Equal(l[4], want[1]) || !bytes.Equal(l[17], want[2]) {
		t.Error("the order of the records")
	}
	if x, e := store.Replay(l); e != api.OK || !store.Same(x, s) {
		t.Error(e)
	}
	if l, e := store.Records(api.State{}); e != api.OK || len(l) != 0 {
		t.Error(e)
	}
	for k, spoil := range []func(s *api.State){
		func(s *api.State) { s.History.Commits = s.History.Commits[:3] }, func(s *api.State) { s.Bases = s.Bases[:3] }, func(s *api.State) { s.Bases[1] = s.Bases[0] }, func(s *api.State) { s.Bases[1] = api.Base{Axioms: []api.Axiom{{}}} }, func(s *api.State) { s.History.Branches[0].No = 9 }, func(s *api.State) { s.Policies[1].Reader = "bob" }, func(s *api.State) { s.Policies[0].Reader = "_" }, func(s *api.State) { s.Policies[1].Secrets = make([]api.Query, 1) }, func(s *api.State) { s.Ledgers[0], s.Ledgers[1] = s.Ledgers[1], s.Ledgers[0] }, func(s *api.State) { s.Ledgers[1] = s.Ledgers[0] }, func(s *api.State) { s.Ledgers[2].Entries = nil }, func(s *api.State) { s.Ledgers[2].Reader = "eve" }, func(s *api.State) { s.Ledgers[2].Version = 5 }, func(s *api.State) { s.Ledgers[2].Entries = []api.Entry{{No: 2, Part: sample.Part("A(a)")}} }, func(s *api.State) { s.Policies = s.Policies[:1] },
		func(s *api.State) { s.Alignments[1].Name = "al" }, func(s *api.State) { s.Alignments[1].Name = "" }, func(s *api.State) { s.Alignments[1].Name = "p:x" }, func(s *api.State) { s.Alignments[1].Axioms = []api.Axiom{{}} }, func(s *api.State) { s.Others[0].No = 2 }, func(s *api.State) { s.Others[2].No = 3 }, func(s *api.State) { s.Others[1].Name = "p" }, func(s *api.State) { s.Others[1].Name = "_q" }, func(s *api.State) { s.Others[1].Base = api.Base{Axioms: []api.Axiom{{}}} }, func(s *api.State) { s.Others[1].Renamings = make([]api.Renaming, 1) },
	} {
		x := api.State{History: api.History{Commits: slices.Clone(s.History.Commits), Branches: slices.Clone(s.History.Branches), Tags: s.History.Tags}, Bases: slices.Clone(s.Bases), Policies: slices.Clone(s.Policies), Ledgers: slices.Clone(s.Ledgers), Alignments: slices.Clone(s.Alignments), Others: slices.Clone(s.Others)}
		if !store.Same(x, s) {
			t.Fatal("a copy")
		}
		spoil(&x)
		if store.Same(x, s) || store.Same(s, x) {
			t.Error(k, "the same")
		}
		if e := store.Check(x); e != api.ErrStore {
			t.Error(k, e)
		}
		if l, e := store.Records(x); e != api.ErrStore || l != nil {
			t.Error(k, e)
		}
	}
	var many api.State
	for i := range 33 {
		many.Policies = append(many.Policies, api.Policy{Reader: "r" + strconv.Itoa(i)})
	}
	if e := store.Check(many); e != api.ErrStore {
		t.Error(e)
	}
	// A state that has no records: a base that is too long.
	var axioms []api.Axiom
	for i := range 1000 {
		axioms = append(axioms, sample.Axiom("type a"+strconv.Itoa(i)+" A"))
	}
	wide, _ := base.New(axioms)
	id, _ := objects.ID(wide)
	large := api.State{History: api.History{Commits: []api.Commit{{No: 1, Base: id}}}, Bases: []api.Base{wide}}
	if l, e := store.Records(large); e != api.ErrLimit || l != nil || store.Check(large) != api.OK {
		t.Error(e)
	}
}

// P43.3
func TestLedgerSame(t *testing.T) {
	s := whole(t)
	if l := store.Ledger(s, "ann", 3); len(l.Entries) != 2 {
		t.Error(l)
	}
	if l := store.Ledger(s, "ann", 2); !reflect.DeepEqual(l, api.Ledger{Reader: "ann", Version: 2}) {
		t.Error(l)
	}
	twice := api.State{Ledgers: []api.Ledger{{Reader: "x", Version: -1, Entries: make([]api.Entry, 1)}, {Reader: "x", Version: -1}}}
	if l := store.Ledger(twice, "x", -1); len(l.Entries) != 1 {
		t.Error(l)
	}
	empty := api.State{History: api.History{Commits: []api.Commit{}}, Bases: []api.Base{}}
	if !store.Same(api.State{}, empty) {
		t.Error("empty lists")
	}
	a := api.State{Alignments: []api.Alignment{{Sig: api.Signature{Parts: make([]api.Digest, 1)}}}}
	b := api.State{Alignments: []api.Alignment{{Sig: api.Signature{Path: make([]api.Digest, 1)}}}}
	if store.Same(a, b) || !store.Same(a, a) {
		t.Error("signatures")
	}
	for k, x := range [][2]api.State{{{History: api.History{Commits: []api.Commit{{Message: "a"}}}}, {History: api.History{Commits: []api.Commit{{}}}}}, {branch("a", 1), tag("a", 1)}, {policy("a", "select where A(a)"), policy("a", "select where A(b)")}, {other("p", 1, "A sub B."), other("p", 1, "open A sub B.")}, {entry("a", 1, 1, "A(a)"), entry("a", 1, 2, "A(a)")}, {alignment("a"), with(alignment("a"), branch("b", 1))}} {
		if store.Same(x[0], x[1]) || !store.Same(x[0], x[0]) {
			t.Error(k)
		}
	}
}

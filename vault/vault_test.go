package vault_test

import (
	"reflect"
	"slices"
	"strconv"
	"strings"
	"testing"

	"veilstone/api"
	"veilstone/base"
	"veilstone/disk"
	"veilstone/entail"
	"veilstone/ledger"
	"veilstone/mapping"
	"veilstone/objects"
	"veilstone/policy"
	"veilstone/query"
	"veilstone/reply"
	"veilstone/sample"
	"veilstone/signing"
	"veilstone/store"
	"veilstone/vault"
	"veilstone/wal"
)

func fresh(t *testing.T, sectors int) api.Vault {
	t.Helper()
	v, e := vault.New(sectors)
	if e != api.OK {
		t.Fatal(e)
	}
	return v
}

func commit(name, more, less string) api.Op {
	return api.Op{Kind: api.CommitO, Name: name, Message: "m", More: sample.Axioms(more), Less: sample.Axioms(less)}
}

func at(kind int, name, version string) api.Op {
	return api.Op{Kind: kind, Name: name, Version: version, Message: "m"}
}

func put(name, version, other, more string) api.Op {
	return api.Op{Kind: api.PutO, Name: name, Version: version, Other: other, More: sample.Axioms(more)}
}

func secrets(reader string, l ...string) api.Op {
	p := api.Policy{Reader: reader}
	for _, s := range l {
		p.Secrets = append(p.Secrets, sample.Query(s))
	}
	return api.Op{Kind: api.PolicyO, Policy: p}
}

func request(kind int, version, other, query string) api.Request {
	return api.Request{Kind: kind, Reader: "ann", Version: version, Other: other, Query: sample.Query(query)}
}

func ask(version, query string) api.Op {
	return api.Op{Kind: api.AskO, Request: request(api.AskR, version, "", query)}
}

func publish(name string, no int, axioms string, renamings ...api.Renaming) api.Op {
	return api.Op{Kind: api.OtherO, Vocabulary: api.Other{Name: name, No: no, Base: sample.Base(axioms), Renamings: renamings}}
}

// align makes the operation with a signed alignment.
func align(branch, other, name, theirs, maps string) api.Op {
	id, _ := objects.ID(sample.Base(theirs))
	k, _ := signing.New([]byte("owner"), 4)
	public, _ := signing.Public(k)
	a := api.Alignment{Name: name, Base: id, Axioms: sample.Base(maps).Axioms, Public: public}
	body, _ := mapping.Body(a)
	_, a.Sig, _ = signing.Sign(k, body)
	return api.Op{Kind: api.AlignO, Name: branch, Other: other, Alignment: a}
}

// run performs operations that must have these codes, and examines each vault.
func run(t *testing.T, v api.Vault, l []api.Op, codes ...api.Errno) api.Vault {
	t.Helper()
	for i, o := range l {
		x, r := vault.Do(v, o)
		want := api.OK
		if i < len(codes) {
			want = codes[i]
		}
		if r.Code != want || r.Code != api.OK && (r.Commit != 0 || r.Reply != nil) {
			t.Fatalf("operation %d (kind %d): %d, want %d", i, o.Kind, r.Code, want)
		}
		if r.Code != api.OK && r.Code != api.ErrDisk && !reflect.DeepEqual(x, v) {
			t.Fatalf("operation %d has changed something", i)
		}
		if e := vault.Check(x); e != api.OK {
			t.Fatalf("after operation %d: %d", i, e)
		}
		again, e := vault.Restart(x.Disk)
		if e != api.OK || !store.Same(again.State, x.State) {
			t.Fatalf("after operation %d: Restart %d", i, e)
		}
		v = x
	}
	return v
}

func head(v api.Vault, branch string) api.Base {
	for _, r := range v.State.History.Branches {
		if r.Name == branch {
			return v.State.Bases[r.No-1]
		}
	}
	return api.Base{}
}

func expectHead(t *testing.T, v api.Vault, branch, axioms string) {
	t.Helper()
	if b := head(v, branch); !base.Same(b, sample.Base(axioms)) {
		t.Errorf("%s is %v, want %s", branch, b, axioms)
	}
}

// P44.1
func TestNewRestart(t *testing.T) {
	for n, want := range map[int]api.Errno{15: api.ErrArg, 16: api.OK, 4096: api.OK, 4097: api.ErrArg, -1: api.ErrArg} {
		v, e := vault.New(n)
		if e != want || e == api.OK && (len(v.Disk.Sectors) != n || v.Log.Many != n || vault.Check(v) != api.OK) || e != api.OK && v.Disk.Sectors != nil {
			t.Error(n, e)
		}
	}
	v := run(t, fresh(t, 200), []api.Op{commit("main", "A sub B.", ""), {Kind: api.CrashO, N: 3, Tear: 5}})
	x, e := vault.Restart(v.Disk)
	if e != api.OK || !store.Same(x.State, v.State) || x.Disk.Left != -1 || x.Disk.Tear != 0 {
		t.Error(e)
	}
	small, _ := disk.New(15)
	if x, e := vault.Restart(small); e != api.ErrArg || x.Disk.Sectors != nil {
		t.Error(e)
	}
	if x, e := vault.Restart(api.Disk{}); e != api.ErrArg || x.Disk.Sectors != nil {
		t.Error(e)
	}
	l, _ := wal.Open(fresh(t, 16).Disk, 0, 16)
	l, _ = wal.Append(l, []byte("no record"))
	_, d, _ := wal.Sync(l, fresh(t, 16).Disk)
	if x, e := vault.Restart(d); e != api.ErrStore || x.Disk.Sectors != nil {
		t.Error(e)
	}
	stopped := v.Disk
	stopped.Left, stopped.Stopped = 0, true
	if x, e := vault.Restart(stopped); e != api.OK || x.Disk.Stopped {
		t.Error(e)
	}
}

// P44.1
func TestCheck(t *testing.T) {
	v := run(t, fresh(t, 200), []api.Op{commit("main", "A sub B.", ""), secrets("ann")})
	for k, spoil := range []func(v *api.Vault){
		func(v *api.Vault) { *v = api.Vault{} }, func(v *api.Vault) { v.Disk.Tear = 200 }, func(v *api.Vault) { v.Disk.Left, v.Disk.Stopped = 0, true }, func(v *api.Vault) { v.Log.First = 1 }, func(v *api.Vault) { v.Log.Many = 199 }, func(v *api.Vault) { v.Log.Synced-- }, func(v *api.Vault) { v.Log.Synced = 9 }, func(v *api.Vault) { v.State.Bases = nil }, func(v *api.Vault) { v.State.Policies = nil }, func(v *api.Vault) { v.State = api.State{} }, func(v *api.Vault) { v.Disk = fresh(t, 200).Disk }, func(v *api.Vault) { v.Disk.Sectors = v.Disk.Sectors[:15] },
	} {
		x := v
		spoil(&x)
		if e := vault.Check(x); e != api.ErrState {
			t.Error(k, e)
		}
		y, r := vault.Do(x, commit("main", "A sub C.", ""))
		if r.Code != api.ErrState || !reflect.DeepEqual(x, y) {
			t.Error(k, r)
		}
		y, l := vault.Run(x, []api.Op{commit("main", "A sub C.", ""), {}})
		if len(l) != 2 || l[0].Code != api.ErrState || l[1].Code != api.ErrState || !reflect.DeepEqual(x, y) {
			t.Error(k, l)
		}
	}
	if e := vault.Check(v); e != api.OK {
		t.Error(e)
	}
}

// P44.3
func TestCommits(t *testing.T) {
	v := run(t, fresh(t, 600), []api.Op{
		{}, {Kind: 13}, commit("main", "", "A sub B."), commit("a:b", "", ""), commit("main", "A sub B. open type a C.", ""), commit("dev", "", ""), commit("main", "B sub C.", "A sub D."), commit("main", "B sub C. open C sub D.", "open A sub B. type a C."), commit("main", "chain r s r sub r. chain s r s sub s.", ""),
		commit("main", "chain s r s sub r.", ""), commit("main", "open everything sub nothing.", ""), {Kind: api.CommitO, Name: "main", Message: "\n"}, {Kind: api.CommitO, Name: "main", More: []api.Axiom{{}}}, {Kind: api.CommitO, Name: "main", Less: []api.Axiom{{}}, More: []api.Axiom{{}}}, {Kind: api.CommitO, Name: "main", More: []api.Axiom{{Kind: api.LinkA, Open: true, A: "a", Role: "r", B: "_1_x"}}}, {Kind: api.CommitO, Name: "main", More: []api.Axiom{{Kind: api.LinkA, A: "a", Role: "q", B: "_1_x"}}},
	}, api.ErrArg, api.ErrArg, api.ErrArg, api.ErrName, api.OK, api.ErrVersion, api.ErrArg, api.OK, api.ErrCircle, api.ErrCircle, api.ErrOpen, api.ErrArg, api.ErrAxiom, api.ErrArg, api.ErrName, api.OK)
	want, _ := base.New(append(sample.Axioms("B sub C. open C sub D."), api.Axiom{Kind: api.LinkA, A: "a", Role: "q", B: "_1_x"}))
	if !base.Same(head(v, "main"), want) || len(v.State.Bases) != 3 {
		t.Error(head(v, "main"))
	}
	if p := v.State.History.Commits[2].Parents; !slices.Equal(p, []int{2}) {
		t.Error(p)
	}
	if _, r := vault.Do(v, commit("main", "A sub Z.", "")); r.Code != api.OK || r.Commit != 4 || r.Reply != nil {
		t.Error(r)
	}
}

// P44.3
func TestLabelsMerges(t *testing.T) {
	v := run(t, fresh(t, 1000), []api.Op{
		at(api.BranchO, "x", "main"), commit("main", "A sub B.", ""), at(api.BranchO, "dev", "main"), at(api.TagO, "v1", "main"), at(api.BranchO, "v1", "main"), at(api.BranchO, "dev", "main"), at(api.TagO, "dev", "main"), at(api.TagO, "v1", "zzz"), at(api.BranchO, "a:b", "main"), at(api.TagO, "_t", "main^"), at(api.TagO, "_t", "main"),
		commit("dev", "C sub D.", "A sub B."), commit("main", "B sub C.", ""), at(api.MergeO, "nope", "dev"), at(api.MergeO, "main", "nope"), at(api.MergeO, "main", "v1"), at(api.MergeO, "main", "main"), at(api.MergeO, "main", "dev"), at(api.MergeO, "main", "dev"), at(api.MergeO, "dev", "main^1"), at(api.MergeO, "dev", "v1"),
	}, api.ErrVersion, api.OK, api.OK, api.OK, api.ErrTaken, api.ErrTaken, api.ErrTaken, api.ErrVersion, api.ErrName, api.ErrVersion, api.ErrName, api.OK, api.OK, api.ErrVersion, api.ErrVersion, api.ErrState, api.ErrState, api.OK, api.ErrState, api.OK, api.ErrState)
	expectHead(t, v, "main", "B sub C. C sub D.")
	expectHead(t, v, "dev", "B sub C. C sub D.")
	if c := v.State.History.Commits; len(c) != 5 || !slices.Equal(c[3].Parents, []int{3, 2}) || !slices.Equal(c[4].Parents, []int{2, 3}) {
		t.Error(c)
	}
	v = run(t, v, []api.Op{
		put("main", "", "", "X sub Y."), put("new", "v1", "dev^", "Z sub Z."), put("new", "", "main", "Q sub Q."), put("new", "zzz", "", ""), put("new", "main", "zzz", ""), put("new", "main", "main", ""), put("v1", "main", "", ""), {Kind: api.PutO, Name: "new", More: []api.Axiom{{}}},
	}, api.OK, api.OK, api.OK, api.ErrVersion, api.ErrVersion, api.ErrVersion, api.ErrTaken, api.ErrAxiom)
	if c := v.State.History.Commits; len(c) != 8 || len(c[5].Parents) != 0 || !slices.Equal(c[6].Parents, []int{1, 2}) || !slices.Equal(c[7].Parents, []int{6}) {
		t.Error(c)
	}
	expectHead(t, v, "main", "X sub Y.")
	// A merge whose axioms contradict each other openly, or go round.
	run(t, fresh(t, 600), []api.Op{commit("main", "open A disjoint B.", ""), at(api.BranchO, "dev", "main"), commit("main", "open type a A.", ""), commit("dev", "open type a B.", ""), at(api.MergeO, "main", "dev")}, api.OK, api.OK, api.OK, api.OK, api.ErrOpen)
	run(t, fresh(t, 600), []api.Op{commit("main", "", ""), at(api.BranchO, "dev", "main"), commit("main", "chain r s sub t.", ""), commit("dev", "role t sub s.", ""), at(api.MergeO, "main", "dev")}, api.OK, api.OK, api.OK, api.OK, api.ErrCircle)
}

// P44.3
func TestPoliciesRepairs(t *testing.T) {
	v := run(t, fresh(t, 2000), []api.Op{
		secrets("ann", "select ?x where A(?x)"), commit("main", "open type a A.", ""), commit("main", "type a A. open B sub A.", ""), commit("main", "open type a B.", ""), secrets("ann"), secrets("p:x"), secrets("bob", "select where B(a)", "select where r(?x, ?y)"), commit("main", "chain r r sub r.", ""), secrets("eve", "select where C(?x)"), secrets("eve", "select where r(?x, ?y)"), commit("main", "open type c C.", ""), {Kind: api.PolicyO, Policy: api.Policy{Reader: "z", Secrets: make([]api.Query, 17)}},
	}, api.OK, api.ErrPolicy, api.OK, api.ErrPolicy, api.ErrTaken, api.ErrArg, api.OK, api.ErrSimple, api.OK, api.ErrTaken, api.ErrPolicy, api.ErrLimit)
	if len(v.State.Policies) != 3 {
		t.Error(v.State.Policies)
	}
	v = run(t, fresh(t, 2000), []api.Op{
		at(api.RepairO, "main", ""), commit("main", "open A disjoint B. type a A. type a B. type b A.", ""), secrets("bob", "select where B(a)"), at(api.RepairO, "main", ""), at(api.RepairO, "main", ""),
	}, api.ErrVersion, api.OK, api.OK, api.OK, api.ErrState)
	expectHead(t, v, "main", "open A disjoint B. type a B. type b A.")
	var l []api.Op
	for i := range 33 {
		l = append(l, secrets("r"+strconv.Itoa(i)))
	}
	codes := append(make([]api.Errno, 32), api.ErrLimit)
	run(t, fresh(t, 200), l, codes...)
	// A secret that an older commit reveals.
	run(t, fresh(t, 600), []api.Op{commit("main", "open type a A.", ""), commit("main", "", "type a A."), secrets("ann", "select where A(?x)")}, api.OK, api.OK, api.ErrPolicy)
}

// P44.3
func TestAlignments(t *testing.T) {
	theirs := "X sub Y."
	wrong := align("main", "p", "al", theirs, "A sub p:X. p:Y sub C.")
	wrong.Alignment.Sig.Index = 3
	v := run(t, fresh(t, 3000), []api.Op{
		publish("p", 2, ""), publish("p:q", 1, ""), publish("_p", 1, ""), publish("p", 1, theirs), publish("p", 1, ""), {Kind: api.OtherO, Vocabulary: api.Other{Name: "q", No: 1, Base: api.Base{Axioms: []api.Axiom{{}}}}}, publish("q", 1, "", api.Renaming{Kind: 1, Old: "A", New: "A"}),
		align("main", "p", "al", theirs, "A sub p:X."), commit("main", "A sub B. B sub C.", ""), align("main", "q", "al", theirs, "A sub p:X."), align("main", "p", "al", "X sub Z.", "A sub p:X."), publish("r", 1, theirs), align("main", "r", "al", theirs, "A sub p:X."), wrong, align("main", "p", "al", theirs, "B sub p:X. p:Y sub A."), align("main", "p", "al", theirs, "A sub p:X. p:Y sub C."), align("main", "p", "al", theirs, "A sub p:Y."), align("zzz", "p", "bl", theirs, "A sub p:X."),
	}, api.ErrArg, api.ErrArg, api.ErrArg, api.OK, api.ErrArg, api.ErrAxiom, api.ErrRename, api.ErrVersion, api.OK, api.ErrVersion, api.ErrStale, api.OK, api.ErrMapping, api.ErrSignature, api.ErrGain, api.OK, api.ErrTaken, api.ErrVersion)
	expectHead(t, v, "main", "A sub B. B sub C. A sub p:X. p:Y sub C. p:X sub p:Y.")
	if len(v.State.Alignments) != 1 || v.State.Alignments[0].Name != "al" {
		t.Error(v.State.Alignments)
	}
	// The next version calls X W, and has no Y any more.
	carry := api.Op{Kind: api.CarryO, Name: "main", Other: "al", Message: "carried"}
	v = run(t, v, []api.Op{
		publish("p", 2, "W sub Z.", api.Renaming{Kind: 1, Old: "X", New: "W"}), {Kind: api.CarryO, Name: "zzz", Other: "al"}, {Kind: api.CarryO, Name: "main", Other: "zz"}, carry,
	}, api.OK, api.ErrVersion, api.ErrVersion, api.OK)
	expectHead(t, v, "main", "A sub B. B sub C. A sub p:W. p:W sub p:Z.")
	id, _ := objects.ID(sample.Base("W sub Z."))
	want := api.Alignment{Name: "al", Base: id, Axioms: sample.Base("A sub p:W. p:Y sub C.").Axioms}
	got := v.State.Alignments[0]
	if len(v.State.Alignments) != 1 || got.Base != want.Base || got.Public != want.Public || len(got.Sig.Parts) != 0 || !base.Same(api.Base{Axioms: got.Axioms}, api.Base{Axioms: want.Axioms}) {
		t.Error(got)
	}
	// What was held back is tried again; and a version in which nothing is left.
	v = run(t, v, []api.Op{publish("p", 3, "W sub Y. Y sub Z."), carry, publish("p", 4, "N sub N."), carry}, api.OK, api.OK, api.OK, api.ErrMapping)
	expectHead(t, v, "main", "A sub B. B sub C. A sub p:W. p:Y sub C. p:W sub p:Y. p:Y sub p:Z.")
}

// replyOf performs a request, and compares it with Ask.
func replyOf(t *testing.T, v api.Vault, o api.Op) (api.Vault, api.Reply) {
	t.Helper()
	want, s, e := vault.Ask(v.State, o.Request)
	if e != api.OK {
		t.Fatal(e)
	}
	x, r := vault.Do(v, o)
	got, e := reply.Decode(r.Reply)
	if b, _ := reply.Encode(want); r.Code != api.OK || e != api.OK || string(b) != string(r.Reply) || !store.Same(x.State, s) || r.Commit != 0 {
		t.Fatal(r, e)
	}
	return x, got
}

func show(l []api.Told) string {
	var s []string
	for _, t := range l {
		s = append(s, strconv.Itoa(t.Part)+strings.Join(append([]string{""}, t.Tuple...), " "))
	}
	return strings.Join(s, "; ")
}

func asked(kind int, version, other, query string) api.Op {
	return api.Op{Kind: api.AskO, Request: request(kind, version, other, query)}
}

// P44.2 and P44.3
func TestAsk(t *testing.T) {
	v := run(t, fresh(t, 1000), []api.Op{commit("main", "type a A. type a B. type c A. open A sub C.", ""), secrets("ann", "select ?x where A(?x) and B(?x)"), at(api.BranchO, "dev", "main"), commit("main", "type d A.", "type c A."), commit("dev", "type e A. type b B.", "type a A."), at(api.MergeO, "main", "dev")})
	v, r := replyOf(t, v, asked(api.AskR, "main^2", "", "select ?x where A(?x)"))
	if show(r.More) != "0 c; 0 e" || r.Code != api.OK || r.Count != 0 || len(r.Less)+len(r.Whys) != 0 {
		t.Error(r)
	}
	v, r = replyOf(t, v, asked(api.CountR, "main", "", "select ?x where A(?x)"))
	if r.Count != 2 || len(r.More) != 0 {
		t.Error(r)
	}
	v, r = replyOf(t, v, asked(api.DifferR, "main^1", "main^2", "select ?x where A(?x)"))
	if show(r.More) != "0 a; 0 d" || show(r.Less) != "0 c; 0 e" {
		t.Error(show(r.More), show(r.Less))
	}
	v, r = replyOf(t, v, asked(api.MergeR, "main", "", "select ?x where A(?x) and C(?x) or B(?x)"))
	if show(r.More) != "" || show(r.Less) != "" {
		t.Error(show(r.More), show(r.Less))
	}
	v, r = replyOf(t, v, asked(api.DifferR, "main", "main", "select ?x where B(?x)"))
	if show(r.More) != "" || show(r.Less) != "" {
		t.Error(r)
	}
	v, r = replyOf(t, v, asked(api.WhyR, "main", "", "select where C(d)"))
	if len(r.Whys) != 1 || len(r.Whys[0].Axioms) != 1 || len(r.Whys[0].Entries) != 1 {
		t.Error(r)
	}
	v, r = replyOf(t, v, asked(api.WhyR, "main", "", "select where Z(d)"))
	if len(r.Whys) != 0 || r.Code != api.OK {
		t.Error(r)
	}
	for _, x := range []struct {
		r    api.Request
		code api.Errno
	}{
		{api.Request{}, api.ErrRequest}, {api.Request{Kind: 6, Reader: "eve"}, api.ErrRequest}, {api.Request{Kind: api.AskR, Reader: "eve", Version: "zzz"}, api.ErrReader}, {request(api.AskR, "zzz", "", "select where A(a)"), api.ErrVersion}, {request(api.AskR, "main^3", "", "select where A(a)"), api.ErrName}, {request(api.DifferR, "main", "zzz", "select where A(a)"), api.ErrVersion}, {request(api.DifferR, "main", "", "select where A(a)"), api.ErrName}, {request(api.MergeR, "main^", "", "select where A(a)"), api.ErrRequest}, {request(api.WhyR, "main", "", "select ?x where A(?x)"), api.ErrRequest}, {request(api.WhyR, "main", "", "select where A(a) or B(a)"), api.ErrRequest}, {api.Request{Kind: api.AskR, Reader: "ann", Version: "main"}, api.ErrQuery},
	} {
		y, s, e := vault.Ask(v.State, x.r)
		if e != api.OK || !reflect.DeepEqual(y, api.Reply{Code: x.code}) || !store.Same(s, v.State) {
			t.Error(x.r, y, e)
		}
		z, r := vault.Do(v, api.Op{Kind: api.AskO, Request: x.r})
		want, _ := reply.Encode(api.Reply{Code: x.code})
		if r.Code != api.OK || string(r.Reply) != string(want) || !store.Same(z.State, v.State) {
			t.Error(x.r, r)
		}
	}
	if x, s, e := vault.Ask(api.State{}, api.Request{}); e != api.OK || x.Code != api.ErrRequest || !store.Same(s, api.State{}) {
		t.Error(x, e)
	}
	if x, s, e := vault.Ask(api.State{Bases: make([]api.Base, 1)}, api.Request{}); e != api.ErrStore || x.Code != 0 || s.Bases != nil {
		t.Error(x, e)
	}
	// The example of two orders, and of the twin.
	w := run(t, fresh(t, 100), []api.Op{commit("main", "type a A. type a B.", ""), secrets("ann", "select ?x where A(?x) and B(?x)")})
	w, r = replyOf(t, w, ask("main", "select ?x where A(?x)"))
	w, r2 := replyOf(t, w, ask("main", "select ?x where B(?x)"))
	if show(r.More) != "0 a" || len(r2.More) != 0 {
		t.Error(r, r2)
	}
}

// P44.2: a merge with answers of its own, and answers that it lost.
func TestMergeRequest(t *testing.T) {
	v := run(t, fresh(t, 1000), []api.Op{secrets("ann"), commit("main", "type a A. type z A.", ""), at(api.BranchO, "dev", "main"), commit("main", "A sub B.", "type z A."), commit("dev", "type b A. A sub C.", "type z A. type a A."), commit("dev", "type z A. type q D. type n B.", ""), commit("main", "type z A. type q D.", ""), at(api.MergeO, "main", "dev")})
	v, r := replyOf(t, v, asked(api.MergeR, "main", "", "select ?x where B(?x)"))
	if show(r.More) != "0 b" || show(r.Less) != "" {
		t.Error(show(r.More), show(r.Less))
	}
	v = run(t, v, []api.Op{put("main", "main^1", "main^2", "type m D.")})
	v, r = replyOf(t, v, asked(api.MergeR, "main", "", "select ?x where D(?x)"))
	if show(r.More) != "0 m" || show(r.Less) != "0 q" {
		t.Error(show(r.More), show(r.Less))
	}
	// Three ledgers: each version has its own.
	if n := len(v.State.Ledgers); n < 4 {
		t.Error(n)
	}
}

// P44.2: a ledger that is full.
func TestFullLedger(t *testing.T) {
	var axioms strings.Builder
	for i := range 33 {
		axioms.WriteString("link a r b" + strconv.Itoa(i) + ". ")
	}
	v := run(t, fresh(t, 4096), []api.Op{commit("main", axioms.String(), ""), secrets("ann")})
	l := api.Ledger{Reader: "ann", Version: 1}
	// Conjunctions of three facts each, which have few axioms together.
	for n := 0; len(l.Entries) < 1023; n++ {
		i, k, m := n/1024, n/32%32, n%32
		if i >= k || k >= m {
			continue
		}
		part := sample.Part("r(a, b" + strconv.Itoa(i) + ") and r(a, b" + strconv.Itoa(k) + ") and r(a, b" + strconv.Itoa(m) + ")")
		q, e := query.Rename(api.Query{Parts: []api.Part{part}})
		if e != api.OK {
			t.Fatal(e)
		}
		l.Entries = append(l.Entries, api.Entry{No: len(l.Entries) + 1, Part: q.Parts[0]})
	}
	s := v.State
	s.Ledgers = []api.Ledger{l}
	r, y, e := vault.Ask(s, request(api.AskR, "main", "", "select where r(a, b32)"))
	if e != api.OK || len(y.Ledgers[0].Entries) != 1024 || r.Code != api.ErrLedger || len(r.More) != 1 {
		t.Error(len(y.Ledgers[0].Entries), r, e)
	}
	r, z, e := vault.Ask(y, request(api.CountR, "main", "", "select ?x where r(?x, b32)"))
	if e != api.OK || r.Code != api.ErrLedger || r.Count != 1 || !store.Same(y, z) {
		t.Error(r, e)
	}
}

// P44.3 and P44.4: the disk stops at each sector write, with several numbers of bytes.
func TestCrashes(t *testing.T) {
	before := run(t, fresh(t, 60), []api.Op{secrets("ann"), commit("main", "type a A. type b B. A sub some r B.", "")})
	for _, o := range []api.Op{commit("main", "C sub D. type c C.", ""), ask("main", "select ?x where A(?x) or B(?x)"), at(api.TagO, "v1", "main")} {
		after, r := vault.Do(before, o)
		if r.Code != api.OK {
			t.Fatal(r)
		}
		crashed := 0
		for n := range 12 {
			for _, tear := range []int{0, 1, 8, 100, 124, 127, 128} {
				v := run(t, before, []api.Op{{Kind: api.CrashO, N: n, Tear: tear}})
				x, r := vault.Do(v, o)
				old, new := store.Same(x.State, before.State), store.Same(x.State, after.State)
				some := o.Kind == api.AskO && len(x.State.Ledgers) == 1 // a beginning of the entries
				if r.Code == api.ErrDisk {
					crashed++
					if !old && !new && !some || r.Reply != nil || r.Commit != 0 || x.Disk.Left != -1 || vault.Check(x) != api.OK {
						t.Fatal(n, tear, r)
					}
					if y, r := vault.Do(x, o); old && (r.Code != api.OK || !store.Same(y.State, after.State)) {
						t.Fatal("again", n, tear, r)
					}
				} else if r.Code != api.OK || !new {
					t.Fatal(n, tear, r)
				}
				if n == 0 && tear == 0 && (r.Code != api.ErrDisk || !old) {
					t.Fatal("the first write", r)
				}
			}
		}
		if crashed < 7 {
			t.Error(crashed)
		}
	}
	run(t, before, []api.Op{{Kind: api.CrashO, N: -1}, {Kind: api.CrashO, N: 4097}, {Kind: api.CrashO, Tear: -1}, {Kind: api.CrashO, Tear: 129}, {Kind: api.CrashO, N: 4096, Tear: 128}}, api.ErrArg, api.ErrArg, api.ErrArg, api.ErrArg, api.OK)
}

// P44.3: a log that is full.
func TestFullLog(t *testing.T) {
	v := run(t, fresh(t, 16), []api.Op{secrets("ann"), commit("main", "type a A. type b A.", "")})
	for i := range 40 {
		x, r := vault.Do(v, at(api.TagO, "t"+strconv.Itoa(i), "main"))
		if r.Code == api.ErrLimit {
			if !reflect.DeepEqual(x, v) {
				t.Error("changed")
			}
			// No reply without its entries on the disk.
			y, r := vault.Do(v, ask("main", "select ?x where A(?x)"))
			if r.Code != api.ErrLimit || r.Reply != nil || !reflect.DeepEqual(y, v) {
				t.Error(r)
			}
			return
		}
		v = x
	}
	t.Error("the log is never full")
}

// P44.3 and P44.4
func TestRunConsequences(t *testing.T) {
	l := []api.Op{secrets("ann", "select ?x where A(?x) and B(?x)"), commit("main", "type a A. type a B. open A sub C.", ""), ask("main", "select ?x where A(?x) or C(?x)"), at(api.BranchO, "dev", "main"), commit("dev", "open D disjoint E. type d D. type d E.", ""), {Kind: api.CrashO, N: 1}, ask("dev", "select ?x where B(?x)"), at(api.RepairO, "dev", ""), at(api.MergeO, "main", "dev"), ask("main", "select ?x where B(?x) or D(?x) or E(?x)"), commit("main", "open type a E.", ""), {}}
	v := fresh(t, 1000)
	all, outcomes := vault.Run(v, l)
	if len(outcomes) != len(l) {
		t.Fatal(len(outcomes))
	}
	for i, o := range l {
		x, r := vault.Do(v, o)
		if !reflect.DeepEqual(r, outcomes[i]) {
			t.Error(i, r, outcomes[i])
		}
		if len(x.State.History.Commits) < len(v.State.History.Commits) || len(x.State.Policies) < len(v.State.Policies) {
			t.Error("removed", i)
		}
		for _, old := range v.State.Ledgers {
			if !ledger.Before(old, store.Ledger(x.State, old.Reader, old.Version)) {
				t.Error("entries removed", i)
			}
		}
		v = x
	}
	if !reflect.DeepEqual(v, all) {
		t.Error("another vault")
	}
	for _, b := range v.State.Bases {
		open := base.Open(b)
		if ok, e := entail.Consistent(open); !ok || e != api.OK {
			t.Error("open axioms contradict each other")
		}
		for _, p := range v.State.Policies {
			if leads, e := policy.Leads(open, nil, p); leads || e != api.OK {
				t.Error("a secret is revealed")
			}
		}
	}
	if x, r := vault.Run(v, nil); len(r) != 0 || !reflect.DeepEqual(x, v) {
		t.Error(r)
	}
}

package twin_test

import (
	"math/rand"
	"reflect"
	"slices"
	"strconv"
	"strings"
	"testing"

	"veilstone/answer"
	"veilstone/api"
	"veilstone/base"
	"veilstone/freeze"
	"veilstone/policy"
	"veilstone/sample"
	"veilstone/store"
	"veilstone/twin"
	"veilstone/vault"
)

func commit(name, more, less string) api.Op {
	return api.Op{Kind: api.CommitO, Name: name, Message: "m", More: sample.Axioms(more), Less: sample.Axioms(less)}
}

func at(kind int, name, version string) api.Op {
	return api.Op{Kind: kind, Name: name, Version: version, Message: "merge"}
}

func secrets(reader string, l ...string) api.Op {
	p := api.Policy{Reader: reader}
	for _, s := range l {
		p.Secrets = append(p.Secrets, sample.Query(s))
	}
	return api.Op{Kind: api.PolicyO, Policy: p}
}

func ask(reader string, kind int, version, other, query string) api.Op {
	return api.Op{Kind: api.AskO, Request: api.Request{Kind: kind, Reader: reader, Version: version, Other: other, Query: sample.Query(query)}}
}

func put(name, message, version, other string, more []api.Axiom) api.Op {
	return api.Op{Kind: api.PutO, Name: name, Message: message, Version: version, Other: other, More: more}
}

func last(t *testing.T, l []api.Op, sectors int) api.State {
	t.Helper()
	v, e := vault.New(sectors)
	if e != api.OK {
		t.Fatal(e)
	}
	v, _ = vault.Run(v, l)
	return v.State
}

var script = []api.Op{
	secrets("ann", "select ?x where A(?x) and B(?x)"), secrets("bob"), commit("main", "type a A. type a B. open A sub C. type b A.", ""), ask("ann", api.AskR, "main", "", "select ?x where A(?x)"), ask("bob", api.AskR, "main", "", "select ?x where B(?x)"), at(api.BranchO, "dev", "main"), at(api.BranchO, "dev", "main"), commit("dev", "open D sub C. type d D.", "type a A."), commit("main", "type e A.", "type b A."), at(api.MergeO, "main", "dev"), at(api.TagO, "v1", "main"),
	ask("ann", api.DifferR, "main", "main^2", "select ?x where C(?x)"), ask("ann", api.MergeR, "v1", "", "select ?x where B(?x)"), {Kind: api.CrashO, N: 1, Tear: 3}, ask("ann", api.MergeR, "main", "", "select ?x where D(?x) or A(?x)"), ask("ann", api.WhyR, "main", "", "select where C(d)"), put("other", "n", "v1", "dev", sample.Axioms("type z B.")), secrets("ann"), ask("ann", api.CountR, "other", "", "select ?x where B(?x)"), ask("eve", api.CountR, "other", "", "select ?x where B(?x)"), put("root", "", "", "", sample.Axioms("open A sub B.")),
}

// P45.1
func TestBase(t *testing.T) {
	s := last(t, script, 2000)
	for no := 1; no <= len(s.History.Commits); no++ {
		want, _ := freeze.Base(base.Open(s.Bases[no-1]), store.Ledger(s, "ann", no).Entries)
		if b, e := twin.Base(s, "ann", no); e != api.OK || !base.Same(b, want) {
			t.Error(no, b, e)
		}
	}
	if b, e := twin.Base(s, "bob", 2); e != api.OK || !base.Same(b, sample.Base("open A sub C. open D sub C.")) {
		t.Error(b, e)
	}
	for k, x := range []struct {
		s       api.State
		reader  string
		version int
		e       api.Errno
	}{{api.State{}, "ann", 1, api.ErrReader}, {api.State{Bases: make([]api.Base, 1)}, "ann", 1, api.ErrStore}, {s, "eve", 99, api.ErrReader}, {s, "ann", 0, api.ErrVersion}, {s, "ann", len(s.Bases) + 1, api.ErrVersion}} {
		if b, e := twin.Base(x.s, x.reader, x.version); e != x.e || b.Axioms != nil {
			t.Error(k, e)
		}
	}
}

// P45.1
func TestScript(t *testing.T) {
	s := last(t, script, 2000)
	more := func(no int) []api.Axiom {
		b, _ := twin.Base(s, "ann", no)
		return b.Axioms
	}
	var lost []api.Op
	l, e := twin.Script(script, 2000, "ann")
	// The request behind the crash: what of its entries reached the disk.
	v, _ := vault.New(2000)
	before, _ := vault.Run(v, script[:14])
	after, r := vault.Do(before, script[14])
	if r.Code != api.ErrDisk {
		t.Fatal(r)
	}
	for i, label := range []string{"main", "main^", "main^2"} {
		no := []int{4, 3, 2}[i]
		old := len(store.Ledger(before.State, "ann", no).Entries)
		for _, x := range store.Ledger(after.State, "ann", no).Entries[old:] {
			lost = append(lost, api.Op{Kind: api.AskO, Request: api.Request{Kind: api.AskR, Reader: "ann", Version: label, Query: api.Query{Parts: []api.Part{x.Part}}}})
		}
	}
	if len(lost) != 1 {
		t.Error("lost", lost)
	}
	want := []api.Op{script[0], put("main", script[2].Message, "", "", more(1)), script[3], script[5], put("dev", script[7].Message, "dev", "", more(2)), put("main", script[8].Message, "main", "", more(3)), put("main", "merge", "main", "dev", more(4)), script[10], script[11], script[12]}
	want = append(want, lost...)
	want = append(want, script[15], put("other", "n", "v1", "dev", more(5)), script[18], put("root", "", "", "", more(6)))
	if e != api.OK || len(l) != len(want) {
		t.Fatal(len(l), len(want), e)
	}
	for i := range want {
		if !reflect.DeepEqual(l[i], want[i]) {
			t.Errorf("%d: %v, want %v", i, l[i], want[i])
		}
	}
	for k, x := range []struct {
		l       []api.Op
		sectors int
		reader  string
		e       api.Errno
	}{{nil, 16, "ann", api.ErrReader}, {nil, 15, "ann", api.ErrArg}, {script, 4097, "ann", api.ErrArg}, {script, 2000, "eve", api.ErrReader}, {script[:1], 16, "ann", api.OK}} {
		if l, e := twin.Script(x.l, x.sectors, x.reader); e != x.e || e != api.OK && l != nil {
			t.Error(k, e)
		}
		if at, e := twin.Compare(x.l, x.sectors, x.reader); e != x.e || at != 0 {
			t.Error(k, e)
		}
	}
	// A commit that reached the disk although it stopped.
	crashed := []api.Op{secrets("ann"), commit("main", "open A sub B.", ""), {Kind: api.CrashO, N: 0, Tear: 128}, at(api.TagO, "v", "main")}
	if l, e := twin.Script(crashed, 100, "ann"); e != api.OK || len(l) != 3 || !reflect.DeepEqual(l[2], crashed[3]) {
		t.Error(l, e)
	}
}

// P45.2
func TestCompare(t *testing.T) {
	for _, reader := range []string{"ann", "bob"} {
		if at, e := twin.Compare(script, 2000, reader); e != api.OK || at != 0 {
			t.Error(reader, at, e)
		}
	}
	// A nominal as a part of a conjunction: the chapter says that the twin may answer otherwise then.
	odd := []api.Op{secrets("ann"), commit("main", "open A sub some r ({b} and C). type a A. type b D.", ""), ask("ann", api.AskR, "main", "", "select where r(a, ?y) and D(?y)"), ask("ann", api.AskR, "main", "", "select where A(a)"), ask("ann", api.AskR, "main", "", "select where D(b)"), ask("ann", api.AskR, "main", "", "select where r(a, ?y) and D(?y)")}
	if at, e := twin.Compare(odd, 1000, "ann"); e != api.OK && (e != api.ErrTwin || odd[at].Kind != api.AskO) {
		t.Error(at, e)
	}
	// A twin whose base is too long for a record, because the reader was told so much: the request has another outcome.
	var many strings.Builder
	for i := range 80 {
		many.WriteString("type a" + strconv.Itoa(i) + " A. ")
	}
	long := "select ?t where r(?t, ?a) and r(?a, ?b) and r(?b, ?c) and r(?c, ?d) and r(?d, ?e) and r(?e, ?f) and r(?f, ?g) and A(?a) and A(?b) and A(?c) and A(?d) and A(?e)"
	l := []api.Op{secrets("ann"), commit("main", "A sub some r A. "+many.String(), ""), ask("eve", api.AskR, "main", "", long), ask("ann", api.AskR, "main", "", long), ask("ann", api.AskR, "main", "", "select where A(a)")}
	if at, e := twin.Compare(l, 4096, "ann"); e != api.ErrTwin || at != 3 {
		t.Error(at, e)
	}
}

// P45.3
func TestHidden(t *testing.T) {
	s := last(t, []api.Op{secrets("ann", "select ?x where Z(?x)", "select ?x where A(?x)", "select ?x where B(?x) and C(?x)"), commit("main", "type a A. type b B. type b C. type c C.", "")}, 1000)
	for _, x := range []struct {
		query, hidden string
		secrets       []int
	}{{"select ?x where A(?x)", "0 a", []int{1}}, {"select ?x where B(?x) or C(?x)", "1 b", []int{2}}, {"select where A(?x)", "", nil}, {"select ?x where A(?x) or C(?x) and B(?x)", "0 a 1 b", []int{1, 2}}} {
		for _, kind := range []int{api.AskR, api.CountR} {
			l, n, e := twin.Hidden(s, ask("ann", kind, "main", "", x.query).Request)
			got := ""
			for _, y := range l {
				got += " " + strconv.Itoa(y.Part) + " " + strings.Join(y.Tuple, " ")
			}
			if e != api.OK || strings.TrimSpace(got) != x.hidden || !slices.Equal(n, x.secrets) {
				t.Error(x, got, n, e)
			}
		}
	}
	good := ask("ann", api.AskR, "main", "", "select ?x where A(?x)").Request
	change := func(f func(r *api.Request)) api.Request {
		r := good
		f(&r)
		return r
	}
	for k, x := range []struct {
		s api.State
		r api.Request
		e api.Errno
	}{{api.State{Bases: make([]api.Base, 1)}, api.Request{Kind: api.WhyR}, api.ErrStore}, {api.State{}, api.Request{Kind: api.WhyR}, api.ErrRequest}, {s, change(func(r *api.Request) { r.Kind = api.DifferR }), api.ErrRequest}, {s, change(func(r *api.Request) { r.Reader = "eve"; r.Version = "zzz" }), api.ErrReader}, {s, change(func(r *api.Request) { r.Version = "zzz" }), api.ErrVersion}, {s, change(func(r *api.Request) { r.Version = "main^3" }), api.ErrName}, {s, change(func(r *api.Request) { r.Query = api.Query{} }), api.ErrQuery}} {
		if l, n, e := twin.Hidden(x.s, x.r); e != x.e || l != nil || n != nil {
			t.Error(k, e)
		}
	}
	// More answers than a reply has: no secret is the reason.
	var many strings.Builder
	for i := range 300 {
		many.WriteString("open type a" + strconv.Itoa(i) + " A. ")
	}
	wide := last(t, []api.Op{secrets("ann", "select where Z(?x)"), commit("main", many.String(), "")}, 2000)
	l, n, e := twin.Hidden(wide, good)
	if e != api.OK || len(l) != 44 || slices.ContainsFunc(n, func(i int) bool { return i != -1 }) {
		t.Error(len(l), n, e)
	}
}

// random makes a script of some operations.
func random(r *rand.Rand) (l []api.Op) {
	axioms := sample.Axioms("A sub B. B sub some r C. open A disjoint D. role r sub s. some s C sub E. open type a F. F sub some r {b}. type a A. type b A. link a r b. type b C. type c D. type c A. link c s a. type b f in 1 to 5. open C sub f in 0 to 9. open B sub E.")
	queries := []string{"select ?x where A(?x)", "select ?x where B(?x) or D(?x)", "select ?x ?y where r(?x, ?y)", "select where s(?x, ?y) and C(?y)", "select ?x where f(?x) in 0 to 9", "select ?x where s(?x, ?y) and s(?y, ?z) or F(?x)", "select where E(?x)"}
	pick := func() (x []api.Axiom) {
		for _, a := range axioms {
			if r.Intn(2) == 0 {
				x = append(x, a)
			}
		}
		return x
	}
	var s []string
	for _, q := range append(queries, "select ?x where A(?x) and B(?x)", "select where C(?y) and D(?x)") {
		if r.Intn(5) == 0 {
			s = append(s, q)
		}
	}
	l = []api.Op{secrets("ann", s...), secrets("bob"), {Kind: api.CommitO, Name: "main", More: pick()}, at(api.BranchO, "dev", "main")}
	labels := []string{"main", "dev", "main^", "dev^2", "main^2"}
	for range 12 {
		label := labels[r.Intn(len(labels))]
		switch r.Intn(8) {
		case 0:
			b := labels[r.Intn(2)]
			l = append(l, api.Op{Kind: api.CommitO, Name: b, More: pick()})
		case 1:
			l = append(l, at(api.MergeO, labels[r.Intn(2)], labels[r.Intn(2)]))
		case 2:
			l = append(l, api.Op{Kind: api.CrashO, N: r.Intn(6), Tear: r.Intn(129)})
		case 3:
			l = append(l, at(api.RepairO, labels[r.Intn(2)], ""))
		default:
			l = append(l, ask([]string{"ann", "ann", "ann", "bob"}[r.Intn(4)], 1+r.Intn(5), label, labels[r.Intn(2)], queries[r.Intn(len(queries))]))
		}
	}
	return l
}

// P45.4
func TestConsequences(t *testing.T) {
	r := rand.New(rand.NewSource(1))
	hidden, told := 0, 0
	for range 200 {
		l := random(r)
		s := last(t, l, 4000)
		for _, reader := range []string{"ann", "bob"} {
			at, e := twin.Compare(l, 4000, reader)
			if _, ok := policyOf(s, reader); !ok {
				if e != api.ErrReader {
					t.Fatal(e)
				}
				continue
			}
			if e != api.OK {
				t.Fatalf("%s sees a difference at %d: %d\n%v", reader, at, e, l)
			}
			p, _ := policyOf(s, reader)
			for no := 1; no <= len(s.Bases); no++ {
				b, e := twin.Base(s, reader, no)
				if e != api.OK {
					t.Fatal(e)
				}
				if _, ok, e := policy.Secret(b, p); ok || e != api.OK {
					t.Fatal("a secret", e)
				}
				for _, x := range store.Ledger(s, reader, no).Entries {
					told++
					if ok, e := answer.Holds(b, x.Part); !ok || e != api.OK {
						t.Fatal("what was told does not hold over the twin", e)
					}
				}
			}
			for _, o := range l {
				if o.Kind != api.AskO || o.Request.Reader != reader {
					continue
				}
				o.Request.Kind = api.AskR
				_, n, e := twin.Hidden(s, o.Request)
				hidden += len(n)
				if e == api.OK && slices.Contains(n, -1) {
					t.Fatal("held back without a secret", o)
				}
			}
		}
	}
	if hidden < 30 || told < 100 {
		t.Error(hidden, told)
	}
}

func policyOf(s api.State, reader string) (api.Policy, bool) {
	for _, p := range s.Policies {
		if p.Reader == reader {
			return p, true
		}
	}
	return api.Policy{}, false
}

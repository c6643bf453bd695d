package policy_test

import (
	"math/rand"
	"slices"
	"strconv"
	"strings"
	"testing"

	"veilstone/answer"
	"veilstone/api"
	"veilstone/base"
	"veilstone/entail"
	"veilstone/freeze"
	"veilstone/policy"
	"veilstone/query"
	"veilstone/sample"
)

// secrets makes a policy of ann.
func secrets(l ...string) (p api.Policy) {
	p.Reader = "ann"
	for _, s := range l {
		p.Secrets = append(p.Secrets, sample.Query(s))
	}
	return p
}

func entries(parts ...string) (l []api.Entry) {
	for i, p := range parts {
		l = append(l, api.Entry{No: i + 1, Part: sample.Part(p)})
	}
	return l
}

// P37.1
func TestCheck(t *testing.T) {
	chain := sample.Axioms("chain r r sub r.")
	q := sample.Query("select where A(?x)")
	bad := api.Query{}
	for k, x := range []struct {
		p api.Policy
		l []api.Axiom
		e api.Errno
	}{
		{api.Policy{Reader: "ann"}, nil, api.OK}, {api.Policy{}, nil, api.ErrArg}, {api.Policy{Reader: "_ann"}, nil, api.ErrArg}, {api.Policy{Reader: "p:ann"}, nil, api.ErrArg}, {api.Policy{Reader: "and", Secrets: make([]api.Query, 17)}, nil, api.ErrArg}, {api.Policy{Reader: strings.Repeat("a", 25)}, nil, api.ErrArg}, {api.Policy{Reader: "ann", Secrets: slices.Repeat([]api.Query{q}, 16)}, nil, api.OK}, {api.Policy{Reader: "ann", Secrets: append(slices.Repeat([]api.Query{q}, 16), bad)}, nil, api.ErrLimit}, {api.Policy{Reader: "ann", Secrets: []api.Query{q, bad}}, nil, api.ErrQuery}, {secrets("select where r(?x, ?y)"), nil, api.OK}, {secrets("select where r(?x, ?y)"), chain, api.ErrSimple}, {secrets("select ?x ?y where r(?x, ?y)"), chain, api.OK}, {api.Policy{Reader: "ann"}, []api.Axiom{{}}, api.OK}, {secrets("select where A(?x)"), []api.Axiom{{}}, api.ErrAxiom},
	} {
		if e := policy.Check(x.p, x.l); e != x.e {
			t.Errorf("case %d: %d, want %d", k, e, x.e)
		}
	}
}

func big(open bool) api.Base {
	var l []api.Axiom
	for i := range 300 {
		l = append(l, sample.Axiom("type a"+strconv.Itoa(i)+" A"), sample.Axiom("A sub some r {a"+strconv.Itoa(i)+"}"))
	}
	for i := range l {
		l[i].Open = open
	}
	b, _ := base.New(l)
	return b
}

// P37.1
func TestSecret(t *testing.T) {
	for _, x := range []struct {
		base string
		p    api.Policy
		at   int
		ok   bool
	}{
		{"", secrets("select where A(a)"), 0, false}, {"type a A.", secrets("select ?x where B(?x)", "select ?x where A(?x)"), 1, true}, {"type a A. A sub B.", secrets("select ?x where B(?x)", "select ?x where A(?x)"), 0, true}, {"type a A.", api.Policy{Reader: "ann"}, 0, false}, {"A sub some r A. type a A.", secrets("select ?x ?y where r(?x, ?y)", "select ?x where r(?x, ?y) and A(?y)"), 1, true}, {"open A disjoint B. type a A. type a B.", secrets("select ?x where A(?x) or B(?x)"), 0, false},
	} {
		if at, ok, e := policy.Secret(sample.Base(x.base), x.p); e != api.OK || at != x.at || ok != x.ok {
			t.Error(x, at, ok, e)
		}
	}
	bad := api.Base{Axioms: sample.Axioms("B sub A. A sub B.")}
	for k, x := range []struct {
		b api.Base
		p api.Policy
		e api.Errno
	}{{bad, api.Policy{}, api.ErrOrder}, {api.Base{}, api.Policy{}, api.ErrArg}, {sample.Base("chain r r sub r."), secrets("select where r(?x, ?y)"), api.ErrSimple}, {sample.Base("open everything sub nothing."), secrets("select where A(?x)"), api.ErrOpen}, {sample.Base("open everything sub nothing."), secrets(), api.OK}, {big(false), secrets("select where A(?x)"), api.ErrLimit}} {
		if at, ok, e := policy.Secret(x.b, x.p); e != x.e || at != 0 || ok {
			t.Error(k, e)
		}
	}
}

// P37.2
func TestLeads(t *testing.T) {
	for k, x := range []struct {
		open string
		l    []api.Entry
		p    api.Policy
		want bool
		e    api.Errno
	}{
		{"", nil, secrets("select where A(?x)"), false, api.OK}, {"", entries("A(?x)"), secrets("select where A(?x)"), true, api.OK}, {"", entries("A(?x)"), secrets("select ?x where A(?x)"), false, api.OK}, {"", entries("A(a)"), secrets("select ?x where A(?x)"), true, api.OK}, {"open A sub B.", entries("A(a)"), secrets("select ?x where B(?x)"), true, api.OK}, {"", entries("A(a)", "B(a)"), secrets("select ?x where A(?x) and B(?x)"), true, api.OK}, {"", entries("A(a)", "B(b)"), secrets("select ?x where A(?x) and B(?x)"), false, api.OK}, {"", entries("A(?x)", "B(?x)"), secrets("select where A(?x) and B(?x)"), false, api.OK}, {"open A disjoint B.", entries("A(a)", "B(a)"), api.Policy{Reader: "ann"}, true, api.OK}, {"open everything sub nothing.", nil, api.Policy{Reader: "ann"}, true, api.OK},
		{"A sub B.", entries("A(a)"), api.Policy{}, false, api.ErrArg}, {"", nil, api.Policy{}, false, api.ErrArg}, {"chain r r sub r.", nil, secrets("select where r(?x, ?y)"), false, api.ErrSimple}, {"", []api.Entry{{No: 1}}, api.Policy{}, false, api.ErrQuery},
	} {
		if ok, e := policy.Leads(sample.Base(x.open), x.l, x.p); e != x.e || ok != x.want {
			t.Error(k, ok, e)
		}
	}
	if ok, e := policy.Leads(big(true), nil, secrets()); e != api.ErrLimit || ok {
		t.Error(ok, e)
	}
}

// P37.3
func TestShrink(t *testing.T) {
	for k, x := range []struct {
		p    api.Policy
		want []int
	}{
		{secrets("select ?x where A(?x)", "select ?x where A(?x) and B(?x)"), []int{0}}, {secrets("select ?x where A(?x) and B(?x)", "select ?x where A(?x)"), []int{1}}, {secrets("select where A(?x)", "select where A(?y)", "select where A(?z)"), []int{0}}, {secrets("select ?x where A(?x)", "select ?y where A(?y)"), []int{0, 1}}, {secrets("select ?x where A(?x)", "select ?x where B(?x)", "select ?x where A(?x) or B(?x)"), []int{2}}, {secrets(), nil},
	} {
		got, e := policy.Shrink(x.p)
		if e != api.OK || got.Reader != "ann" || len(got.Secrets) != len(x.want) {
			t.Error(k, got, e)
			continue
		}
		for i, n := range x.want {
			a, _ := query.Print(got.Secrets[i])
			b, _ := query.Print(x.p.Secrets[n])
			if string(a) != string(b) {
				t.Error(k, string(a))
			}
		}
	}
	if p, e := policy.Shrink(api.Policy{}); e != api.ErrArg || p.Secrets != nil {
		t.Error(e)
	}
}

// P37.2 and P37.4
func TestConsequences(t *testing.T) {
	r := rand.New(rand.NewSource(1))
	axioms := sample.Axioms("open A sub B. open B sub some r C. open A disjoint D. open role r sub s. open some s C sub E. open type a F. open F sub some r {b}.")
	parts := []string{"A(?x)", "r(?x, ?y) and C(?y)", "D(a)", "F(b) and r(b, a)", "A(b)", "E(?x) and D(?x)", "s(a, b)", "f(a) in 1 to 5"}
	pool := []string{"select ?x where A(?x)", "select where A(?x)", "select ?x where B(?x) and r(?x, ?y)", "select where E(?x)", "select ?x ?y where s(?x, ?y)", "select where C(?y) and D(?x)", "select ?x where A(?x) and B(?x)", "select ?x where f(?x) in 0 to 9 or D(?x)"}
	leading := 0
	for range 150 {
		var l, more []api.Axiom
		for _, a := range axioms {
			if r.Intn(2) == 0 {
				l = append(l, a)
			}
			if r.Intn(4) == 0 {
				more = append(more, a)
			}
		}
		open, _ := base.New(l)
		wide, _ := base.New(append(more, l...))
		var all []api.Entry
		for i, p := range parts {
			if r.Intn(3) == 0 {
				all = append(all, api.Entry{No: i + 1, Part: sample.Part(p)})
			}
		}
		var few []api.Entry
		for _, x := range all {
			if r.Intn(2) == 0 {
				few = append(few, x)
			}
		}
		p := api.Policy{Reader: "ann"}
		for _, s := range pool {
			if r.Intn(3) == 0 {
				p.Secrets = append(p.Secrets, sample.Query(s))
			}
		}
		ok, e := policy.Leads(open, few, p)
		if e != api.OK {
			t.Fatal(e)
		}
		b, _ := freeze.Base(open, few)
		consistent, _ := entail.Consistent(b)
		revealed := false
		if consistent {
			for _, s := range p.Secrets {
				l, _ := answer.All(b, s)
				revealed = revealed || len(l) > 0
			}
		}
		if ok != (!consistent || revealed) {
			t.Fatal("by the definition", open, few, p)
		}
		if x, _ := policy.Leads(wide, all, p); ok && !x {
			t.Fatal("more axioms and entries", open, few, p)
		}
		shrunk, _ := policy.Shrink(p)
		if x, _ := policy.Leads(open, few, shrunk); x != ok {
			t.Fatal("Shrink", open, few, p)
		}
		mixed := api.Policy{Reader: "ann", Secrets: slices.Clone(p.Secrets)}
		slices.Reverse(mixed.Secrets)
		for i, s := range mixed.Secrets {
			mixed.Secrets[i], _ = query.Rename(s)
		}
		if x, _ := policy.Leads(open, few, mixed); x != ok {
			t.Fatal("renaming and order", open, few, p)
		}
		if ok {
			leading++
		}
	}
	if leading < 20 || leading > 140 {
		t.Error(leading)
	}
}

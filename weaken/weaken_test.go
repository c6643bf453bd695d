package weaken_test

import (
	"math/rand"
	"slices"
	"strings"
	"testing"

	"veilstone/api"
	"veilstone/base"
	"veilstone/entail"
	"veilstone/printer"
	"veilstone/sample"
	"veilstone/terms"
	"veilstone/weaken"
)

// P19.1
func TestConcepts(t *testing.T) {
	for src, want := range map[string]string{
		"everything": "", "nothing": "everything", "A": "everything", "{a}": "everything", "some r A": "some r everything", "some r everything": "everything", "A and B": "A; B", "some r (A and B)": "some r A; some r B", "A and some r B": "A; some r B; A and some r everything",
		"f in 1 to 5": "f in -1099511627776 to 5; f in 1 to 1099511627776", "f in -1099511627776 to 5": "f in -1099511627776 to 1099511627776", "f in 1 to 1099511627776": "f in -1099511627776 to 1099511627776", "f in -1099511627776 to 1099511627776": "everything",
		"A and B and C": "A and B; A and C; B and C", "A and f in -1099511627776 to 1099511627776": "A; f in -1099511627776 to 1099511627776", "some r some s f in 0 to 0": "some r some s f in -1099511627776 to 0; some r some s f in 0 to 1099511627776",
		"some r A and some r everything": "some r everything; some r A",
	} {
		l, e := weaken.Concepts(sample.Concept(src))
		var s []string
		for _, c := range l {
			x, _ := printer.Concept(c)
			s = append(s, x)
		}
		if got := strings.Join(s, "; "); e != api.OK || got != want {
			t.Errorf("%s: %s, %d, want %s", src, got, e, want)
		}
	}
	untidy := api.Concept{Kind: api.AndC, Parts: []api.Concept{{Kind: api.TopC}, {Kind: api.NamedC, Name: "A"}}}
	if l, e := weaken.Concepts(untidy); e != api.OK || len(l) != 1 || l[0].Kind != api.TopC {
		t.Error(l, e)
	}
	if l, e := weaken.Concepts(api.Concept{}); e != api.ErrConcept || l != nil {
		t.Error(l, e)
	}
}

func show(l []api.Axiom) string {
	var s []string
	for _, a := range l {
		x, _ := printer.Axiom(a)
		s = append(s, x)
	}
	return strings.Join(s, "; ")
}

// P19.1
func TestAxioms(t *testing.T) {
	for src, want := range map[string]string{
		"A sub everything": "", "A sub B": "A sub everything", "open A sub B and C": "open A sub B; open A sub C", "A and B sub nothing": "A and B sub everything", "A same B": "A sub B; B sub A", "open A same A": "open A sub A", "A same some r B": "A sub some r B; some r B sub A",
		"domain r A": "domain r everything", "domain r everything": "", "type a some r A": "type a some r everything", "type a everything": "", "link a r b": "type a some r everything", "open link a r b": "open type a some r everything",
		"A disjoint B": "everything sub everything", "open A disjoint B": "open everything sub everything", "role r sub s": "open everything sub everything", "chain r r sub s": "open everything sub everything", "private reflexive r": "everything sub everything",
	} {
		if l, e := weaken.Axioms(sample.Axiom(src)); e != api.OK || show(l) != want {
			t.Errorf("%s: %s, %d, want %s", src, show(l), e, want)
		}
	}
	if l, e := weaken.Axioms(api.Axiom{}); e != api.ErrAxiom || l != nil {
		t.Error(l, e)
	}
}

// P19.2
func TestReplace(t *testing.T) {
	b := sample.Base("A sub B. B sub C. role r sub s. chain s s sub t.")
	for _, x := range []struct {
		at   int
		a    string
		want string
		e    api.Errno
	}{{0, "open Z sub Z", "open Z sub Z. B sub C. role r sub s. chain s s sub t.", api.OK}, {1, "open A sub B", "open A sub B. role r sub s. chain s s sub t.", api.OK}, {4, "A sub B", "", api.ErrArg}, {-1, "A sub B", "", api.ErrArg}, {0, "private reflexive r", "", api.ErrSecret}, {0, "role t sub s", "", api.ErrCircle}} {
		if y, e := weaken.Replace(b, x.at, sample.Axiom(x.a)); e != x.e || !base.Same(y, sample.Base(x.want)) {
			t.Error(x, y, e)
		}
	}
	bad := api.Base{Axioms: sample.Axioms("B sub A. A sub B.")}
	if y, e := weaken.Replace(bad, 9, api.Axiom{}); e != api.ErrOrder || y.Axioms != nil {
		t.Error(e)
	}
	if y, e := weaken.Replace(b, 0, api.Axiom{Kind: api.ReflexiveA}); e != api.ErrName || y.Axioms != nil {
		t.Error(e)
	}
	if l, e := weaken.Least(bad, 9, api.Axiom{}, -1); e != api.ErrOrder || l != nil {
		t.Error(e)
	}
}

// P19.2
func TestLeast(t *testing.T) {
	for _, x := range []struct{ base, axiom, goal, want string }{
		{"A sub B and C. B sub D.", "A sub B and C", "A sub D", "A sub C"},
		{"A sub B and C. B sub D. C sub D.", "A sub B and C", "A sub D", "A sub everything"},
		{"A sub B and C. B and C sub D.", "A sub B and C", "A sub D", "A sub B; A sub C"},
		{"A sub B and C. B and C sub D.", "B and C sub D", "A sub D", "B and C sub everything"},
		{"A same B. B sub C.", "A same B", "A sub C", "A sub everything; B sub A"},
		{"link a r b. domain r C.", "link a r b", "link a r b", "type a some r everything"},
		{"link a r b. domain r C.", "link a r b", "type a C", "type a everything"},
		{"type a some r (A and B). some r A sub C.", "type a some r (A and B)", "type a C", "type a some r B"},
		{"type a f in 1 to 5. f in 0 to 9 sub A.", "type a f in 1 to 5", "type a A", "type a f in -1099511627776 to 5; type a f in 1 to 1099511627776"},
		{"A disjoint B. type a A. type a B.", "A disjoint B", "type a nothing", "everything sub everything"},
		{"role r sub s.", "role r sub s", "role r sub s", "open everything sub everything"},
		{"A sub nothing.", "A sub nothing", "A sub B", "A sub everything"},
	} {
		b := sample.Base(x.base)
		at, _ := base.Find(b, sample.Axiom(x.axiom))
		if l, e := weaken.Least(b, at, sample.Axiom(x.goal), 1<<30); e != api.OK || show(l) != x.want {
			t.Errorf("%s %s: %s, %d, want %s", x.base, x.goal, show(l), e, x.want)
		}
	}
	b := sample.Base("A sub B and C. B sub D. Q sub Q.") // B sub D, Q sub Q, A sub B and C
	a := sample.Axiom("A sub D")
	for k, x := range []struct {
		at, budget int
		a          api.Axiom
		e          api.Errno
	}{{-1, 5, a, api.ErrArg}, {3, 5, api.Axiom{}, api.ErrArg}, {0, -1, a, api.ErrArg}, {0, 1<<30 + 1, a, api.ErrArg}, {0, 5, api.Axiom{}, api.ErrAxiom}, {0, 0, sample.Axiom("D sub A"), api.ErrUnproved}, {1, 0, a, api.ErrHolds}, {1, 0, sample.Axiom("A sub A"), api.ErrHolds}, {2, 3, a, api.ErrBudget}, {2, 4, a, api.OK}, {0, 1, a, api.ErrBudget}, {0, 2, a, api.OK}} {
		if l, e := weaken.Least(b, x.at, x.a, x.budget); e != x.e || (e == api.OK) != (len(l) > 0) {
			t.Error(k, l, e)
		}
	}
}

// reaches reports whether steps lead from an axiom to another one.
func reaches(from, to api.Axiom) bool {
	l, _ := weaken.Axioms(from)
	return slices.ContainsFunc(l, func(x api.Axiom) bool { return terms.CompareAxiom(x, to) == 0 || reaches(x, to) })
}

// P19.3
func TestConsequences(t *testing.T) {
	r := rand.New(rand.NewSource(1))
	pool := sample.Axioms("A sub B and C. A sub some r (B and C). B sub C. some r B sub D. C sub D. A same D. A disjoint B. type a A and some r B. link a r b. type b B and C. domain r C. B and C sub D and E. A sub f in 1 to 2. f in 0 to 9 sub D. role r sub s. domain s E.")
	goals := sample.Axioms("A sub D. type a D. A sub C. type a C. B sub E. A sub some s B.")
	for range 300 {
		var l []api.Axiom
		for range 2 + r.Intn(5) {
			l = append(l, pool[r.Intn(len(pool))])
		}
		b, _ := base.New(l)
		at, a := r.Intn(len(b.Axioms)), goals[r.Intn(len(goals))]
		weaker, _ := weaken.Axioms(b.Axioms[at])
		for _, x := range weaker {
			one, _ := base.New(b.Axioms[at : at+1])
			if ok, e := entail.Entails(one, x); !ok || e != api.OK {
				t.Fatal(x, "does not follow from", b.Axioms[at])
			}
		}
		least, e := weaken.Least(b, at, a, 1<<30)
		if e != api.OK {
			continue
		}
		if len(least) == 0 || !slices.IsSortedFunc(least, terms.CompareAxiom) {
			t.Fatal("empty", b, at, a)
		}
		for i, x := range least {
			y, _ := weaken.Replace(b, at, x)
			if ok, _ := entail.Entails(y, a); ok {
				t.Fatal("still follows", b, x)
			}
			for k, z := range least {
				if i != k && reaches(z, x) {
					t.Fatal("not the least", z, x)
				}
			}
			for _, z := range y.Axioms {
				if ok, _ := entail.Entails(b, z); !ok {
					t.Fatal("did not follow", z)
				}
			}
		}
	}
}

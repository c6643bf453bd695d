package censor_test

import (
	"fmt"
	"math/rand"
	"reflect"
	"slices"
	"strconv"
	"strings"
	"testing"

	"veilstone/answer"
	"veilstone/api"
	"veilstone/base"
	"veilstone/censor"
	"veilstone/freeze"
	"veilstone/ledger"
	"veilstone/policy"
	"veilstone/printer"
	"veilstone/query"
	"veilstone/sample"
)

func secrets(l ...string) (p api.Policy) {
	p.Reader = "ann"
	for _, s := range l {
		p.Secrets = append(p.Secrets, sample.Query(s))
	}
	return p
}

func entries(parts ...string) api.Ledger {
	l := api.Ledger{Reader: "ann", Version: 1}
	for _, p := range parts {
		var e api.Errno
		if l, _, e = ledger.Add(l, sample.Part(p)); e != api.OK {
			panic(p)
		}
	}
	return l
}

func show(l []api.Told) string {
	var s []string
	for _, t := range l {
		s = append(s, strconv.Itoa(t.Part)+strings.Join(append([]string{""}, t.Tuple...), " "))
	}
	return strings.Join(s, "; ")
}

func parts(l api.Ledger) string {
	var s []string
	for _, x := range l.Entries {
		b, _ := query.Print(api.Query{Parts: []api.Part{x.Part}})
		s = append(s, strings.TrimPrefix(string(b), "select where "))
	}
	return strings.Join(s, "; ")
}

// P39.1
func TestKnowsMay(t *testing.T) {
	a := secrets("select ?x where A(?x)")
	for _, x := range []struct {
		open, part string
		l          api.Ledger
		p          api.Policy
		knows, may bool
	}{
		{"", "A(a)", entries(), a, false, false}, {"", "B(a)", entries(), a, false, true}, {"", "A(?x)", entries(), a, false, true}, {"open B sub A.", "B(a)", entries(), a, false, false}, {"open A sub B.", "B(a)", entries("A(?x)"), a, false, true}, {"open A sub B.", "B(?x)", entries("A(?x)"), a, true, true}, {"open A sub B. open type a C.", "C(a)", entries(), a, true, true}, {"open A disjoint C.", "C(a)", entries("A(?x)"), a, false, true}, {"open C sub nothing.", "C(?x)", entries(), secrets(), false, false}, {"", "r(?x, ?y) and A(?y)", entries("r(a, ?x) and A(?x) and B(?x)"), a, true, true},
		{"", "B(a)", entries("A(?x)", "C(a)"), secrets("select ?x where C(?x) and B(?x)"), false, false},
	} {
		open, p := sample.Base(x.open), sample.Part(x.part)
		if ok, e := censor.Knows(open, x.l, p); e != api.OK || ok != x.knows {
			t.Error("Knows", x.open, x.part, ok, e)
		}
		if ok, e := censor.May(open, x.p, x.l, p); e != api.OK || ok != x.may {
			t.Error("May", x.open, x.part, ok, e)
		}
	}
}

func full() api.Ledger {
	l := api.Ledger{Reader: "ann", Version: 1}
	for i := range 1024 {
		l.Entries = append(l.Entries, api.Entry{No: i + 1, Part: sample.Part("r(a" + strconv.Itoa(i%32) + ", b" + strconv.Itoa(i/32) + ")")})
	}
	return l
}

func big() api.Base {
	var l []api.Axiom
	for i := range 300 {
		l = append(l, sample.Axiom("open type a"+strconv.Itoa(i)+" A"), sample.Axiom("open A sub some r {a"+strconv.Itoa(i)+"}"))
	}
	b, _ := base.New(l)
	return b
}

// P39.1, P39.2 and P39.3: the errors in their order.
func TestErrors(t *testing.T) {
	bad := api.Base{Axioms: sample.Axioms("B sub A. A sub B.")}
	private, clash, empty := sample.Base("A sub B."), sample.Base("open everything sub nothing."), api.Base{}
	chain := sample.Base("chain r r sub r. open A disjoint B.")
	noPart, noPolicy, noLedger := api.Part{}, api.Policy{}, api.Ledger{}
	a := sample.Part("A(a)")
	numbered := entries("A(a)")
	numbered.Entries[0].No = 7
	long := api.Part{Atoms: []api.Atom{{Kind: 1, Name: "A", X: "?" + strings.Repeat("x", 16)}}}
	for k, x := range []struct {
		open  api.Base
		p     api.Policy
		l     api.Ledger
		x     api.Part
		knows api.Errno
		may   api.Errno
	}{
		{bad, noPolicy, noLedger, noPart, api.ErrOrder, api.ErrOrder}, {private, noPolicy, noLedger, noPart, api.ErrArg, api.ErrArg}, {empty, noPolicy, noLedger, noPart, api.ErrArg, api.ErrArg}, {empty, noPolicy, numbered, noPart, api.ErrLedger, api.ErrLedger}, {clash, noPolicy, entries(), noPart, api.ErrOpen, api.ErrOpen}, {chain, noPolicy, entries("A(a)", "B(a)"), noPart, api.ErrLedger, api.ErrLedger}, {empty, noPolicy, entries(), noPart, api.ErrQuery, api.ErrArg}, {chain, secrets("select where r(?x, ?y)"), entries(), noPart, api.ErrQuery, api.ErrSimple}, {chain, secrets("select where A(?x)"), entries("A(a)"), noPart, api.ErrQuery, api.ErrPolicy}, {chain, secrets(), entries(), sample.Part("r(?x, ?y)"), api.ErrSimple, api.ErrSimple}, {empty, secrets(), full(), a, api.OK, api.ErrLedger}, {empty, secrets(), full(), noPart, api.ErrQuery, api.ErrQuery}, {sample.Base("open A sub B."), secrets(), full(), noPart, api.ErrLimit, api.ErrLimit}, {big(), secrets(), entries(), noPart, api.ErrLimit, api.ErrLimit}, {empty, secrets(), entries(), long, api.OK, api.OK},
	} {
		if ok, e := censor.Knows(x.open, x.l, x.x); e != x.knows || ok {
			t.Errorf("Knows %d: %d, want %d", k, e, x.knows)
		}
		if ok, e := censor.May(x.open, x.p, x.l, x.x); e != x.may || e != api.OK && ok {
			t.Errorf("May %d: %d, want %d", k, e, x.may)
		}
		if w, e := censor.Why(x.open, x.l, x.x); (e != x.knows || w != nil) && len(x.l.Entries) < 1000 {
			t.Errorf("Why %d: %d, want %d", k, e, x.knows)
		}
	}
	q := sample.Query("select ?x where A(?x)")
	for k, x := range []struct {
		b api.Base
		p api.Policy
		l api.Ledger
		q api.Query
		e api.Errno
	}{
		{bad, noPolicy, noLedger, api.Query{}, api.ErrOrder}, {private, noPolicy, noLedger, api.Query{}, api.ErrArg}, {private, noPolicy, numbered, api.Query{}, api.ErrLedger}, {clash, noPolicy, entries(), api.Query{}, api.ErrOpen}, {chain, noPolicy, entries("A(a)", "B(a)"), api.Query{}, api.ErrLedger}, {private, noPolicy, entries(), api.Query{}, api.ErrArg}, {sample.Base("open type a A."), secrets("select where A(?x)"), entries(), api.Query{}, api.ErrPolicy}, {private, secrets(), entries(), api.Query{}, api.ErrQuery}, {chain, secrets(), entries(), sample.Query("select where r(?x, ?y)"), api.ErrSimple}, {private, secrets(), entries(), q, api.OK},
	} {
		if told, l, e := censor.Tell(x.b, x.p, x.l, x.q); e != x.e || told != nil || e != api.OK && l.Reader != "" {
			t.Errorf("Tell %d: %d, want %d", k, e, x.e)
		}
	}
}

// P39.2
func TestTell(t *testing.T) {
	p := secrets("select ?x where A(?x) and B(?x)")
	b := sample.Base("type a A. type a B. type b A. type c B. open type d A.")
	told, l, e := censor.Tell(b, p, entries(), sample.Query("select ?x where A(?x)"))
	if e != api.OK || show(told) != "0 a; 0 b; 0 d" || parts(l) != "A(a); A(b)" {
		t.Error(show(told), parts(l), e)
	}
	told, l2, e := censor.Tell(b, p, l, sample.Query("select ?x where B(?x)"))
	if e != api.OK || show(told) != "0 c" || parts(l2) != "A(a); A(b); B(c)" {
		t.Error(show(told), parts(l2), e)
	}
	// Asking in the other order.
	told, l, e = censor.Tell(b, p, entries(), sample.Query("select ?x where B(?x) or A(?x)"))
	if e != api.OK || show(told) != "0 a; 0 c; 1 b; 1 d" || parts(l) != "B(a); B(c); A(b)" {
		t.Error(show(told), parts(l), e)
	}
	// An answer to be told that follows from those before it is not recorded.
	b = sample.Base("type a A and B. open A sub C.")
	told, l, e = censor.Tell(b, secrets(), entries(), sample.Query("select ?x where A(?x) or C(?x) and A(?x) or C(?y) and B(?x)"))
	if e != api.OK || show(told) != "0 a; 1 a; 2 a" || parts(l) != "A(a); B(a) and C(?v1)" {
		t.Error(show(told), parts(l), e)
	}
	if told, l, e := censor.Tell(api.Base{}, p, entries("A(a)"), sample.Query("select ?x where A(?x)")); e != api.OK || len(told) != 0 || parts(l) != "A(a)" {
		t.Error(show(told), parts(l), e)
	}
	// Guilty axioms are not told.
	clash := sample.Base("open A disjoint B. type a A. type a B. type c A.")
	if told, _, e := censor.Tell(clash, secrets(), entries(), sample.Query("select ?x where A(?x)")); e != api.OK || show(told) != "0 c" {
		t.Error(show(told), e)
	}
	// A full ledger: only what is known already.
	facts := sample.Base("link a0 r b0. link z r b0.")
	told, l, e = censor.Tell(facts, secrets(), full(), sample.Query("select ?x where r(?x, b0)"))
	if e != api.OK || show(told) != "0 a0" || len(l.Entries) != 1024 {
		t.Error(show(told), len(l.Entries), e)
	}
	// At most 256 answers.
	var many []api.Axiom
	for i := range 300 {
		many = append(many, sample.Axiom("open type a"+strconv.Itoa(i)+" A"))
	}
	wide, _ := base.New(many)
	if told, l, e := censor.Tell(wide, secrets(), entries(), sample.Query("select ?x where A(?x)")); e != api.OK || len(told) != 256 || len(l.Entries) != 0 {
		t.Error(len(told), e)
	}
	// A variable whose name is too long for freezing cannot be told.
	long := api.Query{Parts: []api.Part{{Atoms: []api.Atom{{Kind: 1, Name: "A", X: "?" + strings.Repeat("x", 16)}}}}}
	if told, l, e := censor.Tell(sample.Base("type a A."), secrets(), entries(), long); e != api.OK || len(told) != 1 || parts(l) != "A(?v1)" {
		t.Error(show(told), parts(l), e)
	}
}

func showWhy(w []api.Why) string {
	var s []string
	for _, x := range w {
		var l []string
		for _, a := range x.Axioms {
			text, _ := printer.Axiom(a)
			l = append(l, text)
		}
		s = append(s, strings.Join(l, ", ")+fmt.Sprint(x.Entries))
	}
	return strings.Join(s, "; ")
}

// P39.3
func TestWhy(t *testing.T) {
	for _, x := range []struct {
		open, part string
		l          api.Ledger
		want       string
	}{
		{"open A sub B.", "B(a)", entries("A(a)"), "open A sub B[1]"}, {"open A sub B.", "B(a)", entries(), ""}, {"open A sub B.", "B(a)", entries("A(a)", "B(a)", "C(c)"), "[2]; open A sub B[1]"}, {"open A sub B. open type a A. open type a B.", "B(a)", entries(), "open type a B[]; open type a A, open A sub B[]"}, {"role r sub s. open type a some r A.", "s(a, ?x) and A(?x)", entries("r(a, ?x) and A(?x)"), "open type a some r A[]; [1]"}, {"open type a A.", "A(a)", entries("A(a)", "A(a) and B(b)"), "open type a A[]; [1]; [2]"},
	} {
		w, e := censor.Why(sample.Base(x.open), x.l, sample.Part(x.part))
		got := strings.ReplaceAll(showWhy(w), "open A sub B, open type a A", "open type a A, open A sub B")
		if e != api.OK || got != x.want {
			t.Errorf("%s %s: %s, %d, want %s", x.open, x.part, got, e, x.want)
		}
	}
	// 256 explanations, and one more.
	for n, want := range map[int]api.Errno{256: api.OK, 257: api.ErrLimit} {
		var l []api.Axiom
		for i := range n {
			l = append(l, sample.Axiom("open type a A and B"+strconv.Itoa(i)))
		}
		open, _ := base.New(l)
		if w, e := censor.Why(open, entries(), sample.Part("A(a)")); e != want || (e == api.OK) != (len(w) == n) {
			t.Error(n, len(w), e)
		}
	}
	// More than 1024 axioms and entries together.
	if _, e := censor.Why(sample.Base("role r sub s."), full(), sample.Part("A(?x)")); e != api.ErrLimit {
		t.Error(e)
	}
	if w, e := censor.Why(api.Base{}, full(), sample.Part("A(?x)")); e != api.OK || len(w) != 0 {
		t.Error(e)
	}
}

// world is a random base, policy and list of queries.
func world(r *rand.Rand) (b api.Base, p api.Policy, l []api.Query) {
	pool := sample.Axioms("A sub B. B sub some r C. A disjoint D. role r sub s. some s C sub E. type a A. type a F. F sub some r {b}. type b A. link a r b. type b C. type c D. type c A. link c s a. type b f in 1 to 5. C sub f in 0 to 9.")
	var axioms []api.Axiom
	for _, a := range pool {
		if r.Intn(2) == 0 {
			a.Open = a.Open || r.Intn(3) == 0
			axioms = append(axioms, a)
		}
	}
	b, _ = base.New(axioms)
	p.Reader = "ann"
	for _, s := range []string{"select ?x where A(?x)", "select where E(?x)", "select ?x where B(?x) and r(?x, ?y)", "select ?x ?y where s(?x, ?y)", "select where C(?y) and D(?x)", "select ?x where F(?x) and A(?x)", "select ?x where f(?x) in 0 to 9"} {
		if r.Intn(4) == 0 {
			p.Secrets = append(p.Secrets, sample.Query(s))
		}
	}
	for _, s := range []string{"select ?x where A(?x)", "select ?x where B(?x) or D(?x)", "select ?x ?y where r(?x, ?y)", "select where s(?x, ?y) and C(?y)", "select ?x where f(?x) in 0 to 9", "select ?x where s(?x, ?y) and s(?y, ?z) or F(?x)", "select where E(?x)"} {
		if r.Intn(2) == 0 {
			l = append(l, sample.Query(s))
		}
	}
	return b, p, l
}

// P39.2 and P39.4
func TestConsequences(t *testing.T) {
	r := rand.New(rand.NewSource(1))
	asked, held := 0, 0
	for range 250 {
		b, p, queries := world(r)
		open, l := base.Open(b), entries()
		if leads, e := policy.Leads(open, nil, p); leads || e != api.OK {
			continue
		}
		for _, q := range queries {
			told, x, e := censor.Tell(b, p, l, q)
			if e != api.OK {
				t.Fatal(b, q, e)
			}
			asked++
			// By the definition, with Knows and May.
			want, y := []api.Told(nil), l
			answers, _ := answer.All(b, q)
			for _, a := range answers {
				part, _ := query.Instance(q, a)
				knows, _ := censor.Knows(open, y, part)
				may, _ := censor.May(open, p, y, part)
				if !knows && may {
					y, _, _ = ledger.Add(y, part)
				}
				if knows || may {
					want = append(want, a)
				} else {
					held++
				}
				after, _ := censor.Knows(open, x, part)
				holds, _ := answer.Holds(b, part)
				tell := slices.ContainsFunc(told, func(u api.Told) bool { return reflect.DeepEqual(u, a) })
				if tell != after && tell || tell && !holds {
					t.Fatal("told, but not known", b, a)
				}
				if !tell {
					next := append(slices.Clone(x.Entries), api.Entry{No: len(x.Entries) + 1, Part: part})
					if leads, e := policy.Leads(open, next, p); !leads || e != api.OK {
						t.Fatal("held back without need", b, a)
					}
				}
			}
			if show(told) != show(want) || !reflect.DeepEqual(x, y) {
				t.Fatal(b, q, show(told), show(want), parts(x), parts(y))
			}
			if leads, _ := policy.Leads(open, x.Entries, p); leads || !ledger.Before(l, x) {
				t.Fatal("a secret is revealed")
			}
			again, z, _ := censor.Tell(b, p, x, q)
			if show(again) != show(told) || !reflect.DeepEqual(z, x) {
				t.Fatal("asked again", b, q)
			}
			twin, _ := freeze.Base(open, x.Entries)
			other, z, e := censor.Tell(twin, p, l, q)
			if e != api.OK || show(other) != show(told) || !reflect.DeepEqual(z, x) {
				t.Fatal("the twin", b, q, show(told), show(other), e)
			}
			l = x
		}
		why(t, open, l, queries)
	}
	if asked < 200 || held < 50 {
		t.Error(asked, held)
	}
}

// why compares the explanations of a part with those found by trying all sets.
func why(t *testing.T, open api.Base, l api.Ledger, queries []api.Query) {
	t.Helper()
	if len(queries) == 0 || len(queries[0].Told) > 0 || len(open.Axioms)+len(l.Entries) > 8 {
		return
	}
	x := queries[0].Parts[0]
	var sets []int
	for bits := range 1 << (len(open.Axioms) + len(l.Entries)) {
		var part api.Base
		var some []api.Entry
		fewer := false
		for i, a := range open.Axioms {
			about := a.Kind == api.RoleSubA
			if bits>>i&1 == 1 || about {
				part.Axioms = append(part.Axioms, a)
			}
			fewer = fewer || about && bits>>i&1 == 1
		}
		for i, e := range l.Entries {
			if bits>>(len(open.Axioms)+i)&1 == 1 {
				some = append(some, e)
			}
		}
		b, _ := freeze.Base(part, some)
		ok, _ := answer.Holds(b, x)
		if ok && !fewer && !slices.ContainsFunc(sets, func(s int) bool { return s&bits == s }) {
			sets = append(sets, bits)
		}
	}
	least := slices.DeleteFunc(slices.Clone(sets), func(s int) bool {
		return slices.ContainsFunc(sets, func(u int) bool { return u != s && u&s == u })
	})
	w, e := censor.Why(open, l, x)
	if e != api.OK || len(w) != len(least) {
		t.Fatal(open, parts(l), x, showWhy(w), least, e)
	}
}

package module_test

import (
	"math/rand"
	"slices"
	"strings"
	"testing"

	"veilstone/api"
	"veilstone/base"
	"veilstone/entail"
	"veilstone/module"
	"veilstone/normal"
	"veilstone/sample"
	"veilstone/saturate"
)

// P15.1
func TestReach(t *testing.T) {
	for _, x := range []struct {
		axioms, start string
		which         []int
		atoms         string
	}{
		{"A sub some r B. B sub C. D sub A.", "A", []int{0, 1}, "! * <some r B> A B C"}, {"A sub some r B. B sub C. D sub A.", "B", []int{1}, "! * B C"}, {"A sub some r B. B sub C. D sub A.", "<some r B>", []int{0, 1}, "! * <some r B> B C"}, {"everything sub A.", "", []int{0}, "! * A"}, {"A disjoint B.", "A", nil, "! * A"}, {"A disjoint B.", "A, B", []int{0}, "! * A B"}, {"nothing sub A. A sub B.", "", []int{0, 1}, "! * A B"},
		{"reflexive r. domain r A. A sub B.", "C", []int{0, 1, 2}, "! * A B C"}, {"domain r A. role s sub r. chain r r sub r.", "", []int{1, 2}, "! *"}, {"domain r A. role s sub r. chain r r sub r. Q sub some s Q.", "Q", []int{0, 1, 2, 3}, "! * <some s Q> A Q"}, {"chain r s sub t. domain t T. type a some r B. B sub some s C.", "{a}", []int{0, 1, 2, 3}, "! * <some r B> <some s C> B C T {a}"}, {"chain r s sub t. domain t T. type a some r B.", "{a}", []int{0, 2}, "! * <some r B> B {a}"},
		{"f in 1 to 2 sub A. g in 1 to 2 sub B. type a f in 5 to 6.", "{a}", []int{0, 2}, "! * <f in 1 to 2> <f in 5 to 6> A {a}"}, {"some r A sub B. link a r b. type b A.", "{a}", []int{0, 1, 2}, "! * <some r A> A B {a} {b}"}, {"A sub B. C sub D.", "Z, Z", nil, "! * Z"},
	} {
		start := strings.Split(x.start, ", ")
		if x.start == "" {
			start = nil
		}
		which, e := module.Reach(sample.Axioms(x.axioms), start)
		if e != api.OK || !slices.Equal(which, x.which) {
			t.Errorf("%s %s: %v, %d", x.axioms, x.start, which, e)
		}
		atoms, e := module.Atoms(sample.Axioms(x.axioms), start)
		if e != api.OK || strings.Join(atoms, " ") != x.atoms {
			t.Errorf("%s %s: %v, %d", x.axioms, x.start, atoms, e)
		}
	}
}

// P15.1 and P15.2
func TestErrors(t *testing.T) {
	b := sample.Base("A sub B.")
	bad := api.Base{Axioms: sample.Axioms("B sub A. A sub B.")}
	full := slices.Repeat([]string{"A"}, 16384)
	isZero := func(b api.Base) bool { return b.Axioms == nil }
	for k, x := range []struct {
		l     []api.Axiom
		start []string
		e     api.Errno
	}{{[]api.Axiom{{}}, []string{""}, api.ErrAxiom}, {b.Axioms, []string{"A", ""}, api.ErrArg}, {b.Axioms, []string{"{}"}, api.ErrArg}, {b.Axioms, []string{"and"}, api.ErrArg}, {b.Axioms, full, api.OK}, {b.Axioms, append(full, "A"), api.ErrArg}, {slices.Repeat(b.Axioms, 1025), []string{""}, api.ErrLimit}, {bad.Axioms, []string{"<x>", "{_1}", "*", "!"}, api.OK}} {
		if l, e := module.Reach(x.l, x.start); e != x.e || e != api.OK && l != nil {
			t.Errorf("case %d: %d", k, e)
		}
		if l, e := module.Atoms(x.l, x.start); e != x.e || e != api.OK && l != nil {
			t.Errorf("case %d: %d", k, e)
		}
		if k == 1 || k == 5 {
			if m, e := module.Extract(b, x.start); e != x.e || !isZero(m) {
				t.Errorf("case %d: %d", k, e)
			}
		}
	}
	if m, e := module.Extract(bad, []string{""}); e != api.ErrOrder || !isZero(m) {
		t.Error(e)
	}
	if m, e := module.Of(bad, api.Axiom{}); e != api.ErrOrder || !isZero(m) {
		t.Error(e)
	}
	if m, e := module.Of(b, sample.Axiom("reflexive r")); e != api.ErrAxiom || !isZero(m) {
		t.Error(e)
	}
	if m, e := module.Of(b, api.Axiom{Kind: api.LinkA}); e != api.ErrName || !isZero(m) {
		t.Error(e)
	}
	if m, e := module.Individuals(bad); e != api.ErrOrder || !isZero(m) {
		t.Error(e)
	}
	// 1023 axioms with 16 pieces each, and a goal with more than 16 pieces.
	var l []api.Axiom
	for i := range 1024 {
		name := string([]byte{'N', byte('a' + i/676), byte('a' + i/26%26), byte('a' + i%26)})
		l = append(l, sample.Axiom(name+" sub some r some r some r some r some r some r some r B and C and D and E and F and G and H and I"))
	}
	big, _ := base.New(l)
	for n, want := range map[int]api.Errno{1022: api.OK, 1023: api.ErrLimit} {
		m, e := module.Of(api.Base{Axioms: big.Axioms[:n]}, sample.Axiom("some r some r some r some r some r some r some r B and C and D and E and F and G and H and I sub some r some s A"))
		if e != want || e != api.OK && !isZero(m) {
			t.Error(n, e)
		}
	}
	// The first starts must be names of individuals, which may be reserved and many.
	var links []api.Axiom
	for i := range 1024 {
		n := string([]byte{byte('a' + i/676), byte('a' + i/26%26), byte('a' + i%26)})
		links = append(links, api.Axiom{Kind: api.LinkA, A: "_1_" + n, Role: "r", B: "_2_" + n})
	}
	many, _ := base.New(links)
	if m, e := module.Individuals(many); e != api.OK || !base.Same(m, many) {
		t.Error(e)
	}
}

// P15.2
func TestModules(t *testing.T) {
	b := sample.Base("A sub B. C sub D. role r sub s. type a A. B sub some r E. domain s F. G disjoint D. E and F sub D.")
	for _, x := range []struct {
		m    func() (api.Base, api.Errno)
		want string
	}{
		{func() (api.Base, api.Errno) { return module.Of(b, sample.Axiom("A sub D")) }, "A sub B. role r sub s. B sub some r E. domain s F. E and F sub D."},
		{func() (api.Base, api.Errno) { return module.Of(b, sample.Axiom("C sub D")) }, "C sub D. role r sub s."},
		{func() (api.Base, api.Errno) { return module.Of(b, sample.Axiom("G and C sub Z")) }, "C sub D. role r sub s. G disjoint D."},
		{func() (api.Base, api.Errno) { return module.Of(b, sample.Axiom("some r E sub Z")) }, "role r sub s. B sub some r E. domain s F. E and F sub D."},
		{func() (api.Base, api.Errno) { return module.Extract(b, []string{"B"}) }, "role r sub s. B sub some r E. domain s F. E and F sub D."},
		{func() (api.Base, api.Errno) { return module.Extract(b, nil) }, "role r sub s."},
		{func() (api.Base, api.Errno) { return module.Individuals(b) }, "type a A. A sub B. role r sub s. B sub some r E. domain s F. E and F sub D."},
	} {
		m, e := x.m()
		if e != api.OK || !base.Same(m, sample.Base(x.want)) {
			t.Errorf("%v, %d, want %s", m, e, x.want)
		}
	}
	if m, e := module.Of(sample.Base("A sub B. C sub D."), sample.Axiom("A sub D")); e != api.OK || !base.Same(m, sample.Base("A sub B.")) {
		t.Error(m, e)
	}
}

// about returns the facts of the closure of pieces about an atom.
func about(p []api.Piece, atom string) (l []api.Fact) {
	c, _ := saturate.All(append(slices.Clone(p), api.Piece{Kind: api.SubP, A: atom, C: "*"}), api.MaxBudget)
	for _, f := range c.Facts {
		if f.A == atom {
			l = append(l, f)
		}
	}
	return l
}

// P15.3
func TestConsequences(t *testing.T) {
	r := rand.New(rand.NewSource(1))
	pool := sample.Axioms("A sub some r B. B sub C. some r C sub D. A disjoint D. C same some s A. role r sub s. chain r s sub t. reflexive t. domain t E. E sub f in 1 to 3. f in 0 to 5 sub G. G sub f in 7 to 8. type a A. type b B and E. link a r b. {b} sub H. everything sub K. H sub some r {a}. K and H sub nothing. D sub some q everything. domain q B.")
	atoms := []string{"A", "B", "C", "{a}", "{b}", "<some r B>", "H", "E", "*"}
	goals := sample.Axioms("A sub D. A disjoint B. B sub E. type a D. type b G. link a s b. domain r G. B same C. some r B sub K and G. A sub nothing.")
	for range 400 {
		var l []api.Axiom
		for _, a := range pool {
			if r.Intn(2) == 0 {
				l = append(l, a)
			}
		}
		b, e := base.New(l)
		if e != api.OK {
			t.Fatal(e)
		}
		var start, fewer []string
		for _, a := range atoms {
			if r.Intn(3) == 0 {
				start = append(start, a)
				if r.Intn(2) == 0 {
					fewer = append(fewer, a)
				}
			}
		}
		m, e := module.Extract(b, start)
		n, e2 := module.Extract(b, fewer)
		twice, e3 := module.Extract(m, start)
		rest, _ := base.Minus(n, m)
		if e != api.OK || e2 != api.OK || e3 != api.OK || !base.Same(m, twice) || len(rest.Axioms) > 0 {
			t.Fatal(start, fewer, m, n, twice)
		}
		p, _ := normal.Pieces(b.Axioms)
		q, _ := normal.Pieces(m.Axioms)
		for _, s := range start {
			if !slices.Equal(about(p, s), about(q, s)) {
				t.Fatalf("%s in %v: %v", s, m, b)
			}
		}
		for _, g := range goals {
			x, _ := module.Of(b, g)
			ok, _ := entail.Entails(b, g)
			ok2, e := entail.Entails(x, g)
			if e != api.OK || ok != ok2 {
				t.Fatal(g, ok, ok2)
			}
		}
		x, _ := module.Individuals(b)
		ok, _ := entail.Consistent(b)
		if ok2, _ := entail.Consistent(x); ok != ok2 {
			t.Fatal("consistent", b)
		}
		for _, i := range []string{"a", "b"} {
			l1, _ := entail.Types(b, i)
			l2, _ := entail.Types(x, i)
			if !slices.Equal(l1, l2) && ok {
				t.Fatal("types", b, l1, l2)
			}
		}
	}
}

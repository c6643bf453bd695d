package entail_test

import (
	"fmt"
	"math/rand"
	"slices"
	"strconv"
	"strings"
	"testing"

	"veilstone/api"
	"veilstone/base"
	"veilstone/checker"
	"veilstone/entail"
	"veilstone/sample"
	"veilstone/terms"
)

// expectEntails checks whether an axiom follows, and its proofs.
func expectEntails(t *testing.T, b api.Base, a api.Axiom, want bool) {
	t.Helper()
	ok, e := entail.Entails(b, a)
	if e != api.OK || ok != want {
		t.Errorf("%v: %v, %d, want %v", a, ok, e, want)
	}
	x, e := entail.Proofs(b, a)
	switch {
	case !want:
		if e != api.ErrUnproved || x != nil {
			t.Errorf("%v: %d", a, e)
		}
	case a.Kind == api.RoleSubA || a.Kind == api.ChainA || a.Kind == api.ReflexiveA:
		if e != api.OK || len(x) != 0 {
			t.Errorf("%v: %d", a, e)
		}
	default:
		tidy, _ := terms.TidyAxiom(a)
		if e != api.OK || checker.Source(b.Axioms, tidy, x) != api.OK {
			t.Errorf("%v: %d", a, e)
		}
	}
}

// P14.1
func TestEntails(t *testing.T) {
	for _, x := range []struct{ base, yes, no string }{
		{"", "A sub A. nothing sub A. A sub everything. A same A. A and B sub A. some r (A and B) sub some r A. nothing disjoint A. domain r everything. type a everything. role r sub r. domain r some r everything. f in 1 to 2 sub f in 0 to 3.", ""},
		{"", "", "A sub B. A same B. A disjoint B. domain r A. type a A. link a r b. role r sub s. chain r r sub r. reflexive r. some r A sub some r (A and B). A disjoint A. f in 0 to 3 sub f in 1 to 2. everything sub A"},
		{"A sub some r B. domain r C.", "A sub C. some r everything sub C. A sub some r B. A sub C and some r B", "B sub C. A sub some r C. A same C"},
		{"A sub B. B sub A.", "A same B. some r A same some r B. open A sub B", "A sub C"},
		{"A and B sub nothing.", "A disjoint B. some r A and C disjoint some s B and A and B", "A disjoint C"},
		{"role r sub s. chain s s sub t. reflexive u. role u sub v. link a r b. link b s c. role q sub q.", "role r sub s. chain r s sub t. chain r r sub t. reflexive u. reflexive v. link a t c. link a u a. link a v a. link a s b. role u sub v. link c u c", "chain u s s sub t. chain u v sub v. role s sub r. chain s t sub t. reflexive s. link a u b. link c s b. reflexive t. link a t b"},
		{"A disjoint B. type a A. type a B.", "type a C. link a r b. type a nothing", "type b C. link b r a. A sub B"},
		{"link a r b. type b B. some r B sub C.", "type a C. type a some r {b}. {a} sub C. type a some r (B and {b})", "type b C. type a some r {a}"},
		{"everything sub nothing.", "A sub B. type a A. link a r b. A disjoint A. domain r A", "role r sub s. reflexive r. chain r r sub r"},
		{"type a f in 1 to 5. type a f in 4 to 9.", "type a f in 4 to 5. type a f in 0 to 9", "type a f in 4 to 4"},
	} {
		b := sample.Base(x.base)
		for k, l := range [2]string{x.yes, x.no} {
			for _, s := range strings.Split(l, ". ") {
				s = strings.TrimSuffix(strings.TrimSpace(s), ".")
				if s == "" {
					continue
				}
				expectEntails(t, b, sample.Axiom(s), k == 0)
			}
		}
	}
	// An axiom that is not tidy follows like its tidy form.
	a := sample.Axiom("A sub A and B")
	a.Right.Parts = []api.Concept{a.Right.Parts[1], a.Right.Parts[0], a.Right.Parts[0]}
	expectEntails(t, sample.Base("A sub B."), a, true)
}

func big() api.Base {
	var l []api.Axiom
	for i := range 300 {
		l = append(l, sample.Axiom("type a"+strconv.Itoa(i)+" A"), sample.Axiom("A sub some r {a"+strconv.Itoa(i)+"}"))
	}
	b, e := base.New(l)
	if e != api.OK {
		panic(e)
	}
	return b
}

// P14.1, P14.2 and P14.3
func TestErrors(t *testing.T) {
	bad := api.Base{Axioms: sample.Axioms("B sub A. A sub B.")}
	a := api.Axiom{Kind: api.ReflexiveA}
	if ok, e := entail.Entails(bad, a); e != api.ErrOrder || ok {
		t.Error(e)
	}
	if ok, e := entail.Entails(api.Base{}, a); e != api.ErrName || ok {
		t.Error(e)
	}
	if x, e := entail.Proofs(bad, a); e != api.ErrOrder || x != nil {
		t.Error(e)
	}
	if x, e := entail.Proofs(api.Base{}, a); e != api.ErrName || x != nil {
		t.Error(e)
	}
	if ok, e := entail.Consistent(bad); e != api.ErrOrder || ok {
		t.Error(e)
	}
	if l, e := entail.Taxonomy(bad); e != api.ErrOrder || l != nil {
		t.Error(e)
	}
	if l, e := entail.Types(bad, ""); e != api.ErrOrder || l != nil {
		t.Error(e)
	}
	if l, e := entail.Types(api.Base{}, "and"); e != api.ErrName || l != nil {
		t.Error(e)
	}
	if l, e := entail.Instances(bad, api.Concept{}); e != api.ErrOrder || l != nil {
		t.Error(e)
	}
	for c, want := range map[int]api.Errno{0: api.ErrConcept, api.NominalC: api.ErrAxiom} {
		if l, e := entail.Instances(api.Base{}, api.Concept{Kind: c, Name: "a"}); c != 0 && e != want || l != nil || e == api.OK {
			t.Error(e)
		}
	}
	// Too large a closure; none is made for roles, and none where there is nothing to ask.
	b := big()
	if ok, e := entail.Entails(b, sample.Axiom("A sub B")); e != api.ErrLimit || ok {
		t.Error(e)
	}
	if ok, e := entail.Entails(b, sample.Axiom("role r sub r")); e != api.OK || !ok {
		t.Error(e)
	}
	if x, e := entail.Proofs(b, sample.Axiom("A sub B")); e != api.ErrLimit || x != nil {
		t.Error(e)
	}
	if ok, e := entail.Consistent(b); e != api.ErrLimit || ok {
		t.Error(e)
	}
	if l, e := entail.Taxonomy(b); e != api.ErrLimit || l != nil {
		t.Error(e)
	}
	if l, e := entail.Types(b, "a1"); e != api.ErrLimit || l != nil {
		t.Error(e)
	}
	if l, e := entail.Instances(b, sample.Concept("A")); e != api.ErrLimit || l != nil {
		t.Error(e)
	}
	var pieces []api.Axiom
	for i := range 1000 {
		c := "X" + strconv.Itoa(i)
		pieces = append(pieces, sample.Axiom("f in "+strconv.Itoa(i)+" to 2000 sub some r some r some r some r some r some r some r ("+c+" and C and D and E and F and G and H and I)"))
	}
	many, e := base.New(pieces)
	if e != api.OK {
		t.Fatal(e)
	}
	// Too many pieces; nothing is made of them if there is no individual to ask about.
	if ok, e := entail.Consistent(many); e != api.ErrLimit || ok {
		t.Error(e)
	}
	if l, e := entail.Types(many, "a"); e != api.ErrLimit || l != nil {
		t.Error(e)
	}
	if l, e := entail.Instances(many, sample.Concept("A")); e != api.OK || l != nil {
		t.Error(e)
	}
	if ok, e := entail.Entails(many, sample.Axiom("A sub A")); e != api.ErrLimit || ok {
		t.Error(e)
	}
}

// P14.2
func TestConsistent(t *testing.T) {
	for src, want := range map[string]bool{
		"": true, "A sub nothing.": true, "type a A. type a B. A disjoint B.": false, "everything sub nothing.": false, "type a A. A sub some r B. B sub nothing.": false, "A sub some r B. B sub nothing.": true, "type a f in 1 to 2. type a f in 3 to 4.": false, "link a r b. {b} sub nothing.": false, "reflexive r. domain r nothing.": false,
	} {
		if ok, e := entail.Consistent(sample.Base(src)); e != api.OK || ok != want {
			t.Errorf("%s: %v, %d", src, ok, e)
		}
	}
}

func show(l []api.Class) (s string) {
	for _, c := range l {
		s += strings.Join(c.Names, "=") + fmt.Sprint(c.Above) + " "
	}
	return s
}

// P14.2
func TestTaxonomy(t *testing.T) {
	for src, want := range map[string]string{
		"":                           "![1] *[] ",
		"A sub B.":                   "![2] *[] A[3] B[1] ",
		"A sub B. B sub C. A sub C.": "![2] *[] A[3] B[4] C[1] ",
		"A same B. C sub nothing. everything sub D. E sub A.": "!=C[3] *=D[] A=B[1] E[2] ",
		"everything sub nothing. A sub B.":                    "!=*=A=B[] ",
		"A sub B. A sub C. B sub D. C sub D.":                 "![2] *[] A[3 4] B[5] C[5] D[1] ",
	} {
		if l, e := entail.Taxonomy(sample.Base(src)); e != api.OK || show(l) != want {
			t.Errorf("%s: %s, %d, want %s", src, show(l), e, want)
		}
	}
}

// P14.3
func TestTypesInstances(t *testing.T) {
	b := sample.Base("link a r b. domain r C. C sub D. type c E. {d} sub E. E sub some s {a}. F sub G. type z f in 1 to 5. link z q z.")
	for name, want := range map[string]string{"a": "C D", "b": "", "c": "E", "d": "E", "nobody": "", "_1_x": ""} {
		if l, e := entail.Types(b, name); e != api.OK || strings.Join(l, " ") != want {
			t.Errorf("%s: %v, %d", name, l, e)
		}
	}
	for c, want := range map[string]string{"C": "a", "E": "c d", "everything": "a b c d z", "nothing": "", "some r {b}": "a", "some s some r everything": "c d", "f in 0 to 9": "z", "f in 2 to 9": "", "some q some q f in 1 to 5": "z", "New": "", "C and D": "a"} {
		if l, e := entail.Instances(b, sample.Concept(c)); e != api.OK || strings.Join(l, " ") != want {
			t.Errorf("%s: %v, %d", c, l, e)
		}
	}
	if l, e := entail.Types(api.Base{}, "a"); e != api.OK || len(l) != 0 {
		t.Error(l, e)
	}
	clash := sample.Base("type a A. type a B. A disjoint B. type b C.")
	if l, e := entail.Types(clash, "a"); e != api.OK || strings.Join(l, " ") != "A B C" {
		t.Error(l, e)
	}
	if l, e := entail.Instances(clash, sample.Concept("New")); e != api.OK || strings.Join(l, " ") != "a" {
		t.Error(l, e)
	}
}

// P14.4, and P14.3 by the definition
func TestConsequences(t *testing.T) {
	r := rand.New(rand.NewSource(1))
	l := sample.Axioms("A sub B. B sub A. B sub some r C. some r C sub A. C sub D. A disjoint D. type a A. type a C. type b B. link a r b. role r sub s. chain r s sub s. domain s D. D sub some r {a}. f in 0 to 3 sub A. type b f in 1 to 2. everything sub C. C sub nothing. A same C.")
	for range 150 {
		var small, large []api.Axiom
		for _, a := range l {
			if r.Intn(3) == 0 {
				small = append(small, a)
			}
			if r.Intn(6) == 0 {
				large = append(large, a)
			}
		}
		b, _ := base.New(small)
		more, _ := base.New(append(large, small...))
		for _, a := range b.Axioms {
			expectEntails(t, b, a, true)
		}
		for _, a := range l {
			ok, _ := entail.Entails(b, a)
			if ok {
				expectEntails(t, more, a, true)
			}
			if a.Kind == api.SubA {
				back, _ := entail.Entails(b, api.Axiom{Kind: api.SubA, Left: a.Right, Right: a.Left})
				both, e := entail.Entails(b, api.Axiom{Kind: api.EquivA, Left: a.Left, Right: a.Right})
				if e == api.OK && both != (ok && back) {
					t.Fatal("EquivA", a)
				}
			}
		}
		n, _ := terms.Vocabulary(b.Axioms)
		for _, i := range n.Individuals {
			types, _ := entail.Types(b, i)
			for _, c := range n.Concepts {
				ok, _ := entail.Entails(b, sample.Axiom("type "+i+" "+c))
				instances, _ := entail.Instances(b, sample.Concept(c))
				if ok != slices.Contains(types, c) || ok != slices.Contains(instances, i) {
					t.Fatal("types", i, c)
				}
			}
		}
		ways(t, b, n.Concepts)
	}
}

// ways checks that a name is below another one exactly if there is a way upwards.
func ways(t *testing.T, b api.Base, concepts []string) {
	t.Helper()
	l, _ := entail.Taxonomy(b)
	class := map[string]int{}
	for i, c := range l {
		for _, n := range c.Names {
			class[n] = i
		}
	}
	var up func(from, to int) bool
	up = func(from, to int) bool {
		return from == to || slices.ContainsFunc(l[from].Above, func(n int) bool { return up(n, to) })
	}
	for _, x := range concepts {
		for _, y := range concepts {
			ok, _ := entail.Entails(b, sample.Axiom(x+" sub "+y))
			if ok != up(class[x], class[y]) {
				t.Fatal("taxonomy", x, y, show(l))
			}
		}
		for _, k := range l[class[x]].Above {
			for _, m := range l[class[x]].Above {
				if k != m && up(k, m) {
					t.Fatal("not direct", show(l))
				}
			}
		}
	}
}

package printer_test

import (
	"math/rand"
	"reflect"
	"strings"
	"testing"

	"veilstone/api"
	"veilstone/printer"
	"veilstone/syntax"
	"veilstone/terms"
)

func named(s string) api.Concept   { return api.Concept{Kind: api.NamedC, Name: s} }
func nominal(s string) api.Concept { return api.Concept{Kind: api.NominalC, Name: s} }
func and(l ...api.Concept) api.Concept {
	return api.Concept{Kind: api.AndC, Parts: l}
}
func some(r string, c api.Concept) api.Concept {
	return api.Concept{Kind: api.SomeC, Name: r, Parts: []api.Concept{c}}
}
func ranged(f string, lo, hi int) api.Concept {
	return api.Concept{Kind: api.RangeC, Name: f, Lo: lo, Hi: hi}
}

var top, bottom = api.Concept{Kind: api.TopC}, api.Concept{Kind: api.BottomC}

// P4.1
func TestConcept(t *testing.T) {
	a, b, c := named("A"), named("B"), named("p:C")
	for want, x := range map[string]api.Concept{
		"everything": top, "nothing": bottom, "A": a, "{a}": nominal("a"), "{_1_x}": nominal("_1_x"),
		"A and (B and p:C)": and(a, and(b, c)), "(B and A) and A": and(and(b, a), a), "A and A and everything": and(a, a, top),
		"some r (A and {b})": some("r", and(a, nominal("b"))), "some r some s everything": some("r", some("s", top)), "some r A and B": and(some("r", a), b),
		"age in -5 to 0": ranged("age", -5, 0), "age in -1099511627776 to 1099511627776": ranged("age", -1<<40, 1<<40), "some r f in 1 to 2": some("r", ranged("f", 1, 2)),
	} {
		if s, e := printer.Concept(x); e != api.OK || s != want {
			t.Errorf("%q, %d, want %q", s, e, want)
		}
	}
	for _, x := range []api.Concept{{}, and(a), named("_x"), named("and"), ranged("f", 2, 1)} {
		if s, e := printer.Concept(x); e != terms.CheckConcept(x) || e == api.OK || s != "" {
			t.Errorf("%v: %q, %d", x, s, e)
		}
	}
}

// P4.2
func TestAxiom(t *testing.T) {
	a, b := named("A"), named("B")
	in := func(l ...string) []string { return l }
	for want, x := range map[string]api.Axiom{
		"A and B sub some r A":        {Kind: api.SubA, Left: and(a, b), Right: some("r", a)},
		"open B same A":               {Kind: api.EquivA, Left: b, Right: a, Open: true},
		"{a} disjoint nothing":        {Kind: api.DisjointA, Left: nominal("a"), Right: bottom},
		"open domain r A and B":       {Kind: api.DomainA, Role: "r", Right: and(a, b), Open: true},
		"role r sub s":                {Kind: api.RoleSubA, Roles: in("r"), Role: "s", Open: true},
		"private role r sub s":        {Kind: api.RoleSubA, Roles: in("r"), Role: "s"},
		"chain r s t u sub v":         {Kind: api.ChainA, Roles: in("r", "s", "t", "u"), Role: "v", Open: true},
		"private chain r s sub v":     {Kind: api.ChainA, Roles: in("r", "s"), Role: "v"},
		"reflexive r":                 {Kind: api.ReflexiveA, Role: "r", Open: true},
		"private reflexive r":         {Kind: api.ReflexiveA, Role: "r"},
		"type _1_x f in 1 to 2":       {Kind: api.TypeA, A: "_1_x", Right: ranged("f", 1, 2)},
		"open link a r b":             {Kind: api.LinkA, A: "a", Role: "r", B: "b", Open: true},
		"link a r b":                  {Kind: api.LinkA, A: "a", Role: "r", B: "b"},
		"open type a A and (A and A)": {Kind: api.TypeA, A: "a", Right: and(a, and(a, a)), Open: true},
	} {
		if s, e := printer.Axiom(x); e != api.OK || s != want {
			t.Errorf("%q, %d, want %q", s, e, want)
		}
	}
	for _, x := range []api.Axiom{{}, {Kind: api.SubA, Left: a, Right: nominal("a")}, {Kind: api.ReflexiveA}, {Kind: api.SubA, Left: a}} {
		if s, e := printer.Axiom(x); e != terms.CheckAxiom(x) || e == api.OK || s != "" {
			t.Errorf("%v: %q, %d", x, s, e)
		}
	}
}

// P4.2
func TestDocument(t *testing.T) {
	x, y := api.Axiom{Kind: api.SubA, Left: named("A"), Right: named("B")}, api.Axiom{Kind: api.ReflexiveA, Role: "r"}
	if b, e := printer.Document([]api.Axiom{y, x, y}); e != api.OK || string(b) != "private reflexive r.\nA sub B.\nprivate reflexive r.\n" {
		t.Errorf("%q, %d", b, e)
	}
	if b, e := printer.Document(nil); e != api.OK || len(b) != 0 {
		t.Errorf("%q, %d", b, e)
	}
	if b, e := printer.Document([]api.Axiom{x, {Kind: api.ReflexiveA, Role: "_"}, {}}); e != api.ErrName || len(b) != 0 {
		t.Errorf("%q, %d", b, e)
	}
	var l []api.Axiom
	long := api.Axiom{Kind: api.SubA, Left: named(strings.Repeat("a", 12)), Right: named(strings.Repeat("b", 13))} // 32 bytes
	for range api.MaxSource / 32 {
		l = append(l, long)
	}
	if b, e := printer.Document(l); e != api.OK || len(b) != api.MaxSource {
		t.Error(len(b), e)
	}
	l[0].Left.Name += "a"
	if b, e := printer.Document(l); e != api.ErrLimit || len(b) != 0 {
		t.Error(len(b), e)
	}
	if b, e := printer.Document(append(l, api.Axiom{})); e != api.ErrAxiom || len(b) != 0 {
		t.Error(len(b), e)
	}
}

func random(r *rand.Rand, depth int) api.Concept {
	k := r.Intn(8)
	if depth == 0 {
		k = r.Intn(5)
	}
	switch k {
	case 0:
		return []api.Concept{top, bottom}[r.Intn(2)]
	case 1:
		return nominal([]string{"a", "A"}[r.Intn(2)])
	case 2:
		return ranged("f", r.Intn(2)-1, 1+r.Intn(2))
	case 5:
		return some([]string{"r", "s"}[r.Intn(2)], random(r, depth-1))
	case 6, 7:
		var l []api.Concept
		for range 2 + r.Intn(2) {
			l = append(l, random(r, depth-1))
		}
		return and(l...)
	}
	return named([]string{"A", "B"}[r.Intn(2)])
}

// P4.3
func TestConsequences(t *testing.T) {
	r := rand.New(rand.NewSource(1))
	seen := map[string]api.Concept{}
	var l []api.Axiom
	for range 5000 {
		c := random(r, 3)
		s, e := printer.Concept(c)
		if d, ok := seen[s]; e != api.OK || ok && !reflect.DeepEqual(c, d) {
			t.Fatalf("%q, %d: %v and %v", s, e, c, d)
		}
		seen[s] = c
		for _, p := range c.Parts {
			if x, _ := printer.Concept(p); !strings.Contains(s, x) {
				t.Fatalf("%q does not contain %q", s, x)
			}
		}
		x, at, e := syntax.Concept([]byte(s))
		y, e2 := terms.Tidy(c)
		if e != e2 || at != 0 || terms.Compare(x, y) != 0 {
			t.Fatalf("%q: %d, %d", s, e, e2)
		}
		a := api.Axiom{Kind: 1 + r.Intn(3), Left: c, Right: random(r, 2), Open: r.Intn(2) == 0}
		s, e = printer.Axiom(a)
		z, _, e2 := syntax.Axiom([]byte(s))
		w, e3 := terms.TidyAxiom(a)
		if e != terms.CheckAxiom(a) || e == api.OK && (e2 != e3 || z.Open != w.Open || terms.CompareAxiom(z, w) != 0) {
			t.Fatalf("%q: %d, %d, %d", s, e, e2, e3)
		}
		if e3 == api.OK && len(l) < 500 {
			l = append(l, a)
		}
	}
	b, e := printer.Document(l)
	x, bad, e2 := syntax.Document(b)
	if e != api.OK || e2 != api.OK || len(bad) != 0 || len(x) != len(l) {
		t.Fatal(e, e2, bad, len(x))
	}
	for i, a := range x {
		if w, _ := terms.TidyAxiom(l[i]); terms.CompareAxiom(a, w) != 0 || a.Open != w.Open {
			t.Fatal(a, w)
		}
	}
}

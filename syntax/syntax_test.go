package syntax_test

import (
	"fmt"
	"math/rand"
	"slices"
	"strings"
	"testing"

	"veilstone/api"
	"veilstone/syntax"
	"veilstone/terms"
)

func named(s string) api.Concept   { return api.Concept{Kind: api.NamedC, Name: s} }
func nominal(s string) api.Concept { return api.Concept{Kind: api.NominalC, Name: s} }
func and(l ...api.Concept) api.Concept {
	return api.Concept{Kind: api.AndC, Parts: l}
}
func some(r string, c api.Concept) api.Concept {
	return api.Concept{Kind: api.SomeC, Name: r, Parts: []api.Concept{c}}
}

var top, bottom = api.Concept{Kind: api.TopC}, api.Concept{Kind: api.BottomC}

// P3.2
func TestConcept(t *testing.T) {
	a, b := named("A"), named("B")
	for src, want := range map[string]api.Concept{
		"everything": top, "nothing": bottom, "A": a, "p:A": named("p:A"), "{a}": nominal("a"), "{ p:a }": nominal("p:a"),
		"some r A and B": and(b, some("r", a)), "some r (A and B)": some("r", and(a, b)), "A and A": a, "(((A)))": a,
		"some r some s everything": some("r", some("s", top)), "some r nothing": bottom, "A and (B and everything)": and(a, b),
		"age in 18 to 65": {Kind: api.RangeC, Name: "age", Lo: 18, Hi: 65}, "age in -1099511627776 to 1099511627776": {Kind: api.RangeC, Name: "age", Lo: -1 << 40, Hi: 1 << 40},
		"f in 0 to 0 # c": {Kind: api.RangeC, Name: "f"},
	} {
		if c, at, e := syntax.Concept([]byte(src)); e != api.OK || at != 0 || terms.Compare(c, want) != 0 {
			t.Errorf("%q: %v, %d, %d", src, c, at, e)
		}
	}
}

func expectError(t *testing.T, what, src string, at int, e api.Errno) {
	t.Helper()
	var at2 int
	var e2 api.Errno
	if what == "axiom" {
		var a api.Axiom
		a, at2, e2 = syntax.Axiom([]byte(src))
		if a.Kind != 0 {
			t.Errorf("%q: %v", src, a)
		}
	} else {
		var c api.Concept
		c, at2, e2 = syntax.Concept([]byte(src))
		if c.Kind != 0 {
			t.Errorf("%q: %v", src, c)
		}
	}
	if at != at2 || e != e2 {
		t.Errorf("%s %.60q: %d, %d, want %d, %d", what, src, at2, e2, at, e)
	}
}

// P3.2
func TestConceptErrors(t *testing.T) {
	for _, x := range []struct {
		src string
		at  int
		e   api.Errno
	}{
		{"", 0, api.ErrSyntax}, {"  ", 2, api.ErrSyntax}, {"age in 5 to 3", 12, api.ErrConcept}, {"age in 1099511627777 to 3", 7, api.ErrConcept}, {"age in -1099511627777 to 3", 7, api.ErrConcept},
		{"age in 1 to 1099511627777", 12, api.ErrConcept}, {"age in 1 to -1099511627777", 12, api.ErrConcept}, {"age in 5 to x", 12, api.ErrSyntax}, {"age in x to 5", 7, api.ErrSyntax}, {"age in 5 and 6", 9, api.ErrSyntax},
		{"some r", 6, api.ErrSyntax}, {"some", 4, api.ErrSyntax}, {"some _r 5", 5, api.ErrName}, {"some and A", 5, api.ErrSyntax}, {"A and", 5, api.ErrSyntax}, {"A B", 2, api.ErrSyntax}, {"(A", 2, api.ErrSyntax}, {"A)", 1, api.ErrSyntax}, {"()", 1, api.ErrSyntax},
		{"{a", 2, api.ErrSyntax}, {"{}", 1, api.ErrSyntax}, {"{_a}", 1, api.ErrName}, {"{some}", 1, api.ErrSyntax}, {"_A", 0, api.ErrName}, {"p:and", 0, api.ErrName}, {strings.Repeat("a", 25), 0, api.ErrName}, {"sub", 0, api.ErrSyntax}, {"5", 0, api.ErrSyntax},
		{"A and A and A and A and A and A and A and A and A", 0, api.ErrConcept}, {" " + strings.Repeat("some r ", 9) + "A", 1, api.ErrConcept},
		{"(A and B and C and D and E) and (F and G and H and I)", 0, api.ErrLimit}, {"A % %", 2, api.ErrToken}, {"and %", 4, api.ErrToken}, {strings.Repeat(" ", api.MaxSource+1), 0, api.ErrLimit}, {strings.Repeat("(", api.MaxSource), api.MaxSource, api.ErrSyntax},
	} {
		expectError(t, "concept", x.src, x.at, x.e)
	}
}

// P3.2
func TestAxiom(t *testing.T) {
	a, b := named("A"), named("B")
	for src, want := range map[string]api.Axiom{
		"B and (A and B) sub some r {b}": {Kind: api.SubA, Left: and(a, b), Right: some("r", nominal("b"))},
		"open B same A":                  {Kind: api.EquivA, Left: a, Right: b, Open: true},
		"private B disjoint A":           {Kind: api.DisjointA, Left: a, Right: b},
		"domain r A and B":               {Kind: api.DomainA, Role: "r", Right: and(a, b)},
		"role r sub s":                   {Kind: api.RoleSubA, Roles: []string{"r"}, Role: "s", Open: true},
		"private role r sub s":           {Kind: api.RoleSubA, Roles: []string{"r"}, Role: "s"},
		"open chain r s sub t":           {Kind: api.ChainA, Roles: []string{"r", "s"}, Role: "t", Open: true},
		"chain r s q sub t":              {Kind: api.ChainA, Roles: []string{"r", "s", "q"}, Role: "t", Open: true},
		"private chain r s q q sub t":    {Kind: api.ChainA, Roles: []string{"r", "s", "q", "q"}, Role: "t"},
		"reflexive p:r":                  {Kind: api.ReflexiveA, Role: "p:r", Open: true},
		"private reflexive r":            {Kind: api.ReflexiveA, Role: "r"},
		"type a A":                       {Kind: api.TypeA, A: "a", Right: a},
		"private type a A":               {Kind: api.TypeA, A: "a", Right: a},
		"open link a r b":                {Kind: api.LinkA, A: "a", Role: "r", B: "b", Open: true},
		"{a} and A disjoint {b}":         {Kind: api.DisjointA, Left: nominal("b"), Right: and(a, nominal("a"))},
	} {
		if x, at, e := syntax.Axiom([]byte(src)); e != api.OK || at != 0 || terms.CompareAxiom(x, want) != 0 || x.Open != want.Open {
			t.Errorf("%q: %v, %d, %d", src, x, at, e)
		}
	}
	for _, x := range []struct {
		src string
		at  int
		e   api.Errno
	}{
		{"A sub B.", 7, api.ErrSyntax}, {"", 0, api.ErrSyntax}, {"open", 4, api.ErrSyntax}, {"open open A sub B", 5, api.ErrSyntax}, {"open private A sub B", 5, api.ErrSyntax}, {"A", 1, api.ErrSyntax}, {"A sub", 5, api.ErrSyntax}, {"A sub B sub C", 8, api.ErrSyntax}, {"A and sub B", 6, api.ErrSyntax},
		{"domain A", 8, api.ErrSyntax}, {"domain some A", 7, api.ErrSyntax}, {"role r s", 7, api.ErrSyntax}, {"role r same s", 7, api.ErrSyntax}, {"chain r sub s", 8, api.ErrSyntax}, {"chain r s t u v sub s", 14, api.ErrSyntax}, {"chain r s sub t u", 16, api.ErrSyntax}, {"chain r _s x 5", 8, api.ErrName},
		{"reflexive", 9, api.ErrSyntax}, {"reflexive r s", 12, api.ErrSyntax}, {"type A", 6, api.ErrSyntax}, {"type _1_x A", 5, api.ErrName}, {"link a r", 8, api.ErrSyntax}, {"link a r {b}", 9, api.ErrSyntax}, {"link a r b c", 11, api.ErrSyntax},
		{" open A sub {a}", 1, api.ErrAxiom}, {"type a {b}", 0, api.ErrAxiom}, {"A sub {a} B", 10, api.ErrSyntax}, {"where sub A", 0, api.ErrSyntax}, {"A sub B and C and D and E and F and G and H and I and J", 0, api.ErrConcept}, {"A sub B $", 8, api.ErrToken}, {strings.Repeat("#", api.MaxSource+1), 0, api.ErrLimit},
		{"_a sub sub", 0, api.ErrName}, {"f in 3 to 2 sub", 10, api.ErrConcept}, {"f in 3 to 2", 10, api.ErrConcept},
	} {
		expectError(t, "axiom", x.src, x.at, x.e)
	}
}

// document returns the left names of the axioms and the problems of a document.
func document(t *testing.T, src string) (string, []api.Problem) {
	t.Helper()
	l, bad, e := syntax.Document([]byte(src))
	if e != api.OK {
		t.Errorf("%.50q: %d", src, e)
	}
	s := ""
	for _, a := range l {
		s += fmt.Sprint(a.Kind, a.Left.Name, a.A, " ")
	}
	return s, bad
}

// P3.1
func TestDocument(t *testing.T) {
	for _, x := range []struct {
		src, want string
		bad       []api.Problem
	}{
		{"", "", nil}, {"# only", "", nil},
		{"A sub B. A sub sub. link a r b.", "1A 9a ", []api.Problem{{At: 15, Code: api.ErrSyntax}}},
		{"A sub B", "", []api.Problem{{At: 7, Code: api.ErrSyntax}}},
		{"A sub {a}", "", []api.Problem{{At: 9, Code: api.ErrSyntax}}},
		{"A sub {a}. B sub C.", "1B ", []api.Problem{{At: 0, Code: api.ErrAxiom}}},
		{"A sub B.. C sub D.", "1A 1C ", []api.Problem{{At: 8, Code: api.ErrSyntax}}},
		{".", "", []api.Problem{{At: 0, Code: api.ErrSyntax}}},
		{"A sub. B sub C.", "1B ", []api.Problem{{At: 5, Code: api.ErrSyntax}}},
		{"A sub B C D. E sub F.", "1E ", []api.Problem{{At: 8, Code: api.ErrSyntax}}},
		{"A %sub$ B. %", "1A ", []api.Problem{{At: 2, Code: api.ErrToken}, {At: 6, Code: api.ErrToken}, {At: 11, Code: api.ErrToken}}},
		{"% A sub. %", "", []api.Problem{{At: 0, Code: api.ErrToken}, {At: 7, Code: api.ErrSyntax}, {At: 9, Code: api.ErrToken}}},
		{"A sub B. _A sub B. (A sub B", "1A ", []api.Problem{{At: 9, Code: api.ErrName}, {At: 22, Code: api.ErrSyntax}}},
		{"type a A and. type b B.", "8b ", []api.Problem{{At: 12, Code: api.ErrSyntax}}},
	} {
		if s, bad := document(t, x.src); s != x.want || !slices.Equal(bad, x.bad) {
			t.Errorf("%q: %q, %v", x.src, s, bad)
		}
	}
	if l, bad, e := syntax.Document(make([]byte, api.MaxSource+1)); e != api.ErrLimit || len(l)+len(bad) != 0 {
		t.Error(e)
	}
	if s, bad := document(t, strings.Repeat("A sub B.", 1024)+"sub."); len(s) != 3*1024 || len(bad) != 1 {
		t.Error(len(s), bad)
	}
	if l, bad, e := syntax.Document([]byte(strings.Repeat("A sub B.", 1025) + "sub.")); e != api.ErrLimit || len(l)+len(bad) != 0 {
		t.Error(e, len(l), len(bad))
	}
	// The first 64 problems of both kinds.
	_, bad := document(t, strings.Repeat(". % ", 100))
	if len(bad) != 64 || bad[0] != (api.Problem{At: 0, Code: api.ErrSyntax}) || bad[63] != (api.Problem{At: 126, Code: api.ErrToken}) {
		t.Error(len(bad), bad)
	}
}

// P3.3
func TestConsequences(t *testing.T) {
	r := rand.New(rand.NewSource(1))
	words := strings.Fields("A B C r s a ( ) { } . . . and some in to 0 5 -5 nothing everything open private sub sub same disjoint domain role chain reflexive type link % _x p:X")
	good := []string{"A sub B", "B and A sub some r C", "type a A", "role r sub s", "{a} sub A", "f in 1 to 2 sub A"}
	for range 5000 {
		var l []string
		for range r.Intn(14) {
			if r.Intn(3) == 0 {
				l = append(l, strings.Fields(good[r.Intn(len(good))])...)
			} else {
				l = append(l, words[r.Intn(len(words))])
			}
		}
		src := strings.Join(l, " ")
		x, bad, _ := syntax.Document([]byte(src))
		for _, a := range x {
			if y, e := terms.TidyAxiom(a); e != api.OK || terms.CompareAxiom(a, y) != 0 {
				t.Fatalf("%q: %v", src, a)
			}
		}
		if !slices.IsSortedFunc(bad, func(a, b api.Problem) int { return a.At - b.At }) {
			t.Fatalf("%q: %v", src, bad)
		}
		y, bad2, _ := syntax.Document([]byte(strings.Join(l, "\n#.\n\t ")))
		if !slices.EqualFunc(x, y, func(a, b api.Axiom) bool { return terms.CompareAxiom(a, b) == 0 && a.Open == b.Open }) || len(bad) != len(bad2) {
			t.Fatalf("white space matters in %q", src)
		}
		// What follows the last "." is not disturbed by what is before it.
		z, _, _ := syntax.Document([]byte(src + ". type z Z."))
		if len(z) < len(x)+1 || z[len(z)-1].A != "z" {
			t.Fatalf("%q: %v", src, z)
		}
		a, at, e := syntax.Axiom([]byte(src))
		d, bad3, _ := syntax.Document([]byte(src + " ."))
		if e == api.OK && (len(d) != 1 || len(bad3) != 0 || terms.CompareAxiom(d[0], a) != 0 || d[0].Open != a.Open || at != 0) {
			t.Fatalf("%q: %v, %v", src, d, bad3)
		}
	}
}

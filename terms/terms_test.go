package terms_test

import (
	"math/rand"
	"reflect"
	"slices"
	"strings"
	"testing"

	"veilstone/api"
	"veilstone/terms"
)

var (
	top    = api.Concept{Kind: api.TopC}
	bottom = api.Concept{Kind: api.BottomC}
)

func named(s string) api.Concept   { return api.Concept{Kind: api.NamedC, Name: s} }
func nominal(s string) api.Concept { return api.Concept{Kind: api.NominalC, Name: s} }
func and(l ...api.Concept) api.Concept {
	return api.Concept{Kind: api.AndC, Parts: l}
}
func some(r string, c api.Concept) api.Concept {
	return api.Concept{Kind: api.SomeC, Name: r, Parts: []api.Concept{c}}
}
func ranged(f string, lo, hi int) api.Concept {
	return api.Concept{Kind: api.RangeC, Name: f, Lo: lo, Hi: hi}
}
func sub(c, d api.Concept) api.Axiom { return api.Axiom{Kind: api.SubA, Left: c, Right: d} }

// P2.1
func TestCheckName(t *testing.T) {
	for _, s := range []string{"Heart", "go:part_of", "_3_x", "a", "a1", "A_", "__", "_a", "_1", strings.Repeat("a", 24), "_" + strings.Repeat("9", 23), "a:b", strings.Repeat("a", 12) + ":" + strings.Repeat("b", 11), "And", "ands"} {
		if e := terms.CheckName(s); e != api.OK {
			t.Errorf("%q: %d", s, e)
		}
	}
	bad := []string{"", "and", "a:b:c", "3x", "_", ":", "a:", ":a", "a:_b", "_a:b", "a:1", "a-b", "a b", "\xc3\xa4", strings.Repeat("a", 25), "_" + strings.Repeat("a", 24), strings.Repeat("a", 12) + ":" + strings.Repeat("b", 12), "a:and", "or:a", "_a-", "a\x00"}
	bad = append(bad, strings.Fields("and some in to nothing everything one of open private sub same disjoint domain role chain reflexive type link select where or")...)
	for _, s := range bad {
		if e := terms.CheckName(s); e != api.ErrName {
			t.Errorf("%q: %d", s, e)
		}
	}
}

// P2.2
func TestSizeDepth(t *testing.T) {
	c := and(named("A"), some("r", named("B")))
	if terms.Size(c) != 4 || terms.Depth(c) != 2 {
		t.Error(terms.Size(c), terms.Depth(c))
	}
	if terms.Size(api.Concept{}) != 1 || terms.Depth(top) != 0 {
		t.Error("a single concept")
	}
	deep := api.Concept{}
	for range 60000 {
		deep = some("r", deep)
	}
	if terms.Size(deep) != 60001 || terms.Depth(deep) != 60000 || terms.Compare(deep, deep) != 0 {
		t.Error("a deep concept")
	}
	if terms.CheckConcept(deep) != api.ErrConcept {
		t.Error("a deep concept is accepted")
	}
}

func nest(n int) api.Concept {
	c := named("A")
	for range n {
		c = some("r", c)
	}
	return c
}

func wide(n int) (l []api.Concept) {
	for range n {
		l = append(l, named("A"))
	}
	return l
}

// P2.1
func TestCheckConcept(t *testing.T) {
	full := and(wide(8)...)
	sized := and(full, full, full, full, full, full, full) // 64
	for k, c := range []api.Concept{top, bottom, named("A"), named("p:A"), nominal("a"), nominal("_1_x"), nest(8), full, sized, and(top, top), ranged("f", 0, 0), ranged("f", -1<<40, 1<<40), ranged("f", -5, -5), {Kind: api.TopC, Parts: []api.Concept{}}} {
		if e := terms.CheckConcept(c); e != api.OK {
			t.Errorf("case %d: %d", k, e)
		}
	}
	for k, c := range []api.Concept{{}, {Kind: 8}, {Kind: -1}, {Kind: 1 << 40}, {Kind: api.TopC, Name: "A"}, {Kind: api.BottomC, Lo: 1}, {Kind: api.TopC, Hi: -1}, {Kind: api.TopC, Parts: wide(1)},
		{Kind: api.NamedC, Name: "A", Lo: 1, Hi: 1}, {Kind: api.NamedC, Name: "3", Parts: wide(1)}, {Kind: api.NominalC, Name: "A", Hi: 1}, {Kind: api.NominalC, Name: "a", Parts: wide(2)},
		and(), and(top), and(wide(9)...), {Kind: api.AndC, Name: "A", Parts: wide(2)}, {Kind: api.AndC, Lo: -1, Parts: wide(2)},
		{Kind: api.SomeC, Name: "r"}, {Kind: api.SomeC, Name: "r", Parts: wide(2)}, {Kind: api.SomeC, Name: "r", Lo: 1, Hi: 1, Parts: wide(1)}, some("3", api.Concept{}).Parts[0],
		ranged("f", 1, 0), ranged("f", -1<<40-1, 0), ranged("f", 0, 1<<40+1), {Kind: api.RangeC, Name: "f", Parts: wide(1)},
		nest(9), and(sized.Parts[0], full, full, full, full, full, full, top), and(and(top, named("A"), api.Concept{}), named("3"))} {
		if e := terms.CheckConcept(c); e != api.ErrConcept {
			t.Errorf("case %d: %d", k, e)
		}
	}
	for k, c := range []api.Concept{named(""), named("_1_x"), named("and"), nominal(""), nominal("_"), some("", top), some("_r", api.Concept{}), ranged("", 0, 1), ranged("_f", 0, 1), and(top, some("r", named("3")), api.Concept{})} {
		if e := terms.CheckConcept(c); e != api.ErrName {
			t.Errorf("case %d: %d", k, e)
		}
	}
	// The depth comes before everything else, and a concept before its parts.
	if e := terms.CheckConcept(some("3", nest(8))); e != api.ErrConcept {
		t.Error(e)
	}
	if e := terms.CheckConcept(and(some("3", api.Concept{}), api.Concept{})); e != api.ErrName {
		t.Error(e)
	}
}

var good = []api.Axiom{
	sub(nominal("a"), named("B")), sub(named("A"), some("r", nominal("a"))), sub(and(nominal("a"), top), bottom),
	{Kind: api.EquivA, Left: named("A"), Right: some("r", and(nominal("a"), top))},
	{Kind: api.DisjointA, Left: nominal("a"), Right: and(nominal("_1"), top), Open: true},
	{Kind: api.DomainA, Role: "r", Right: named("A")},
	{Kind: api.RoleSubA, Roles: []string{"r"}, Role: "r"},
	{Kind: api.ChainA, Roles: []string{"r", "s"}, Role: "t"},
	{Kind: api.ChainA, Roles: []string{"r", "s", "p:q", "r"}, Role: "t"},
	{Kind: api.ReflexiveA, Role: "r", Open: true},
	{Kind: api.TypeA, A: "_1_x", Right: ranged("f", 1, 2)},
	{Kind: api.LinkA, A: "a", Role: "r", B: "_b"},
}

// P2.1
func TestCheckAxiom(t *testing.T) {
	for k, a := range good {
		if e := terms.CheckAxiom(a); e != api.OK {
			t.Errorf("case %d: %d", k, e)
		}
		// Each field that is not used must be zero.
		for i, spoil := range []func(*api.Axiom){
			func(a *api.Axiom) { a.Left = change(a.Left) }, func(a *api.Axiom) { a.Right = change(a.Right) },
			func(a *api.Axiom) { a.Roles = append(slices.Clone(a.Roles), "r", "s", "t", "u") },
			func(a *api.Axiom) { a.Role += "x" }, func(a *api.Axiom) { a.A += "x" }, func(a *api.Axiom) { a.B += "x" },
		} {
			b := a
			spoil(&b)
			used := [][]bool{1: {true, true}, 2: {true, true}, 3: {true, true}, 4: {false, true, false, true}, 5: {false, false, false, true}, 6: {false, false, false, true}, 7: {false, false, false, true}, 8: {false, true, false, false, true}, 9: {false, false, false, true, true, true}}[a.Kind]
			want := api.ErrAxiom
			if i < len(used) && used[i] {
				want = api.OK
			}
			if e := terms.CheckAxiom(b); e != want {
				t.Errorf("case %d, field %d: %d, want %d", k, i, e, want)
			}
		}
	}
	in := func(l ...string) []string { return l }
	for k, x := range []struct {
		a api.Axiom
		e api.Errno
	}{
		{api.Axiom{}, api.ErrAxiom}, {api.Axiom{Kind: 10}, api.ErrAxiom}, {api.Axiom{Kind: -1}, api.ErrAxiom},
		{api.Axiom{Kind: api.RoleSubA, Role: "s"}, api.ErrAxiom}, {api.Axiom{Kind: api.RoleSubA, Roles: in("r", "s"), Role: "3"}, api.ErrAxiom},
		{api.Axiom{Kind: api.ChainA, Roles: in("r"), Role: "s"}, api.ErrAxiom}, {api.Axiom{Kind: api.ChainA, Roles: in("r", "r", "r", "r", "r"), Role: "s"}, api.ErrAxiom},
		{api.Axiom{Kind: api.RoleSubA, Roles: in("_r"), Role: "s"}, api.ErrName}, {api.Axiom{Kind: api.RoleSubA, Roles: in("r"), Role: ""}, api.ErrName},
		{api.Axiom{Kind: api.ChainA, Roles: in("r", ""), Role: "s"}, api.ErrName}, {api.Axiom{Kind: api.ReflexiveA, Role: "_r"}, api.ErrName},
		{api.Axiom{Kind: api.DomainA, Role: "", Right: api.Concept{}}, api.ErrName}, {api.Axiom{Kind: api.TypeA, A: "", Right: nest(9)}, api.ErrName},
		{api.Axiom{Kind: api.LinkA, A: "a", Role: "_r", B: "b"}, api.ErrName}, {api.Axiom{Kind: api.LinkA, A: "a", Role: "r"}, api.ErrName}, {api.Axiom{Kind: api.LinkA, Role: "r", B: "b"}, api.ErrName},
		{sub(api.Concept{}, named("3")), api.ErrConcept}, {sub(named("3"), api.Concept{}), api.ErrName}, {sub(top, nest(9)), api.ErrConcept}, {sub(nominal("_"), nominal("a")), api.ErrName},
		{sub(named("A"), nominal("a")), api.ErrAxiom}, {sub(named("A"), and(top, and(top, nominal("a")))), api.ErrAxiom},
		{api.Axiom{Kind: api.TypeA, A: "a", Right: nominal("b")}, api.ErrAxiom}, {api.Axiom{Kind: api.DomainA, Role: "r", Right: and(nominal("b"), some("r", top))}, api.ErrAxiom},
		{api.Axiom{Kind: api.EquivA, Left: nominal("a"), Right: top}, api.ErrAxiom}, {api.Axiom{Kind: api.EquivA, Left: top, Right: and(top, nominal("a"))}, api.ErrAxiom},
	} {
		if e := terms.CheckAxiom(x.a); e != x.e {
			t.Errorf("case %d: %d, want %d", k, e, x.e)
		}
	}
}

// change makes another concept of an empty or valid one, without changing whether individuals are admitted there.
func change(c api.Concept) api.Concept {
	if c.Kind == api.NamedC {
		return top
	}
	return named("N")
}

func expectTidy(t *testing.T, c, want api.Concept) {
	t.Helper()
	if x, e := terms.Tidy(c); e != api.OK || terms.Compare(x, want) != 0 {
		t.Errorf("Tidy(%v) = %v, %d, want %v", c, x, e, want)
	}
}

// P2.2
func TestTidy(t *testing.T) {
	a, b, c := named("A"), named("B"), named("C")
	expectTidy(t, and(b, top, and(b, a)), and(a, b))
	expectTidy(t, and(top, top), top)
	expectTidy(t, some("r", and(a, bottom)), bottom)
	expectTidy(t, and(a, some("r", bottom), b), bottom)
	expectTidy(t, and(a, and(a, a)), a)
	expectTidy(t, some("r", and(top, b)), some("r", b))
	expectTidy(t, and(some("r", a), ranged("f", 2, 3), ranged("f", 1, 9), nominal("z"), c, a), and(a, c, nominal("z"), ranged("f", 1, 9), ranged("f", 2, 3), some("r", a)))
	letters := func(from byte, n int) (l []api.Concept) {
		for i := range n {
			l = append(l, named(string(from+byte(i))))
		}
		return l
	}
	if x, e := terms.Tidy(and(and(letters('A', 8)...), and(letters('B', 7)...))); e != api.OK || len(x.Parts) != 8 {
		t.Error(x, e)
	}
	for _, c := range []api.Concept{and(and(letters('A', 8)...), named("Z")), and(top, some("r", and(and(letters('A', 5)...), and(letters('P', 4)...))), bottom)} {
		if x, e := terms.Tidy(c); e != api.ErrLimit || x.Kind != 0 {
			t.Error(x, e)
		}
	}
	expectTidy(t, and(and(letters('A', 8)...), named("Z"), bottom), bottom)
	if x, e := terms.Tidy(and(top)); e != api.ErrConcept || x.Kind != 0 {
		t.Error(x, e)
	}
}

// P2.2
func TestTidyAxiom(t *testing.T) {
	a, b := named("A"), named("B")
	for k, x := range []struct{ a, want api.Axiom }{
		{sub(and(b, a), and(a, top)), sub(and(a, b), a)},
		{sub(b, a), sub(b, a)},
		{api.Axiom{Kind: api.EquivA, Open: true, Left: b, Right: and(a, top)}, api.Axiom{Kind: api.EquivA, Open: true, Left: a, Right: b}},
		{api.Axiom{Kind: api.DisjointA, Left: some("r", a), Right: and(b, b)}, api.Axiom{Kind: api.DisjointA, Left: b, Right: some("r", a)}},
		{api.Axiom{Kind: api.DomainA, Role: "r", Right: and(b, a)}, api.Axiom{Kind: api.DomainA, Role: "r", Right: and(a, b)}},
		{good[8], good[8]},
		{good[11], good[11]},
	} {
		if y, e := terms.TidyAxiom(x.a); e != api.OK || y.Open != x.want.Open || terms.CompareAxiom(y, x.want) != 0 {
			t.Errorf("case %d: %v, %d", k, y, e)
		}
	}
	big := and(and(wide(4)...), and(named("B"), named("C"), named("D"), named("E")), and(named("F"), named("G"), named("H"), named("I")))
	if x, e := terms.TidyAxiom(sub(big, named("A"))); e != api.ErrLimit || x.Kind != 0 {
		t.Error(x, e)
	}
	if x, e := terms.TidyAxiom(sub(top, big)); e != api.ErrLimit || x.Kind != 0 {
		t.Error(x, e)
	}
	if x, e := terms.TidyAxiom(sub(big, nominal("a"))); e != api.ErrAxiom || x.Kind != 0 {
		t.Error(x, e)
	}
}

// P2.3
func TestCompare(t *testing.T) {
	// Strictly increasing.
	l := []api.Concept{{}, {Name: "A"}, {Name: "A", Lo: 1, Hi: -1}, {Name: "A", Lo: 1}, {Kind: 1}, {Kind: 2}, named("A"), named("AA"), named("B"), named("a"), nominal("A"), ranged("f", 1, 5), ranged("f", 1, 6), ranged("f", 2, 3), some("r", named("Z")), and(named("A"), named("B")), and(named("A"), named("C")), and(some("r", top), top), some("r", some("r", top)), some("s", some("a", top)), and(top, top, top)}
	slices.SortStableFunc(l, func(a, b api.Concept) int { return terms.Size(a) - terms.Size(b) })
	for i, a := range l {
		for k, b := range l {
			want := 0
			if i < k {
				want = -1
			} else if i > k {
				want = 1
			}
			if terms.Size(a) != terms.Size(b) || terms.Size(a) < 3 {
				if n := terms.Compare(a, b); n != want {
					t.Errorf("Compare(%v, %v) = %d", a, b, n)
				}
			}
		}
	}
	// A list that is the beginning of another one is less, if the sizes are equal.
	x, y := api.Concept{Kind: 9, Parts: []api.Concept{top, some("r", top)}}, api.Concept{Kind: 9, Parts: []api.Concept{top, top, top}}
	if terms.Compare(x, y) != 1 || terms.Compare(y, x) != -1 {
		t.Error("lists")
	}
	if terms.Compare(and(top, bottom), and(bottom, top)) != -1 {
		t.Error("the order of parts")
	}
}

// P2.3
func TestCompareAxiom(t *testing.T) {
	in := func(l ...string) []string { return l }
	l := []api.Axiom{{}, {Kind: 1}, {Kind: 1, Left: api.Concept{Name: "A"}}, {B: "b"}, {A: "a"}, {A: "b"}, {Role: "a"},
		{Roles: in("")}, {Roles: in("r")}, {Kind: 7, Role: "r"}, {Kind: 1, Left: named("A"), Right: named("B")}, {Kind: 1, Left: named("A"), Right: named("C")}, {Kind: 1, Left: named("B"), Right: named("A")}, {Kind: 2, Left: named("A"), Right: named("A")},
		{Kind: 4, Role: "r", Right: named("A")}, {Kind: 5, Roles: in("r"), Role: "s"}, {Kind: 5, Roles: in("s"), Role: "a"}, {Kind: 8, A: "a", Right: named("A")}, {Kind: 8, A: "b", Right: named("A")}, {Kind: 8, A: "a", Right: named("B")},
		{Kind: 9, A: "a", Role: "r", B: "b"}, {Kind: 1, Left: and(named("A"), named("B")), Right: top}}
	for i, a := range l {
		for k, b := range l {
			n := terms.CompareAxiom(a, b)
			if want := map[bool]int{true: -1, false: 1}[i < k]; i != k && n != want || i == k && n != 0 {
				t.Errorf("%d and %d: %d", i, k, n)
			}
			a.Open = true
			if terms.CompareAxiom(a, b) != n {
				t.Error("Open is compared")
			}
		}
	}
}

// P2.3
func TestVocabulary(t *testing.T) {
	n, e := terms.Vocabulary(append(slices.Clone(good), sub(and(named("C"), some("z", named("B"))), ranged("g", 1, 2)), sub(named("B"), top)))
	want := api.Names{Concepts: []string{"A", "B", "C"}, Roles: []string{"p:q", "r", "s", "t", "z"}, Features: []string{"f", "g"}, Individuals: []string{"_1", "_1_x", "_b", "a"}}
	if e != api.OK || !reflect.DeepEqual(n, want) {
		t.Error(n, e)
	}
	if n, e = terms.Vocabulary(nil); e != api.OK || len(n.Concepts)+len(n.Roles)+len(n.Features)+len(n.Individuals) != 0 {
		t.Error(n, e)
	}
	if n, e = terms.Vocabulary([]api.Axiom{good[0], sub(named("3"), top), {}}); e != api.ErrName || n.Concepts != nil {
		t.Error(n, e)
	}
}

func random(r *rand.Rand, depth int) api.Concept {
	k := r.Intn(8)
	if depth == 0 {
		k = r.Intn(6)
	}
	switch k {
	case 0:
		return top
	case 1:
		return nominal(string(rune('a' + r.Intn(2))))
	case 2:
		return ranged("f", r.Intn(2), 1+r.Intn(2))
	case 6:
		return some(string(rune('r'+r.Intn(2))), random(r, depth-1))
	case 7:
		var l []api.Concept
		for range 2 + r.Intn(2) {
			l = append(l, random(r, depth-1))
		}
		return and(l...)
	}
	if r.Intn(12) == 0 {
		return bottom
	}
	return named(string(rune('A' + r.Intn(3))))
}

// P2.4
func TestConsequences(t *testing.T) {
	r := rand.New(rand.NewSource(1))
	var l []api.Concept
	for range 3000 {
		c := random(r, 3)
		x, e := terms.Tidy(c)
		if e == api.ErrLimit {
			continue
		}
		y, e2 := terms.Tidy(x)
		if e != api.OK || e2 != api.OK || terms.Compare(x, y) != 0 || terms.CheckConcept(x) != api.OK {
			t.Fatalf("Tidy(%v) = %v, %d", c, x, e)
		}
		if terms.Size(x) > terms.Size(c) || terms.Depth(x) > terms.Depth(c) {
			t.Fatalf("Tidy(%v) is greater", c)
		}
		if c.Kind == api.AndC {
			p := slices.Clone(c.Parts)
			r.Shuffle(len(p), func(i, k int) { p[i], p[k] = p[k], p[i] })
			expectTidy(t, and(append(p, p[0])...), x)
			expectTidy(t, and(p[0], and(p...)), x)
		}
		before, _ := terms.Vocabulary([]api.Axiom{{Kind: api.DisjointA, Left: c, Right: top}})
		after, _ := terms.Vocabulary([]api.Axiom{{Kind: api.DisjointA, Left: x, Right: top}})
		for _, n := range slices.Concat(after.Concepts, after.Roles, after.Features, after.Individuals) {
			if !slices.Contains(slices.Concat(before.Concepts, before.Roles, before.Features, before.Individuals), n) {
				t.Fatalf("%q is new in %v", n, x)
			}
		}
		l = append(l, c, x)
	}
	for range 20000 {
		a, b, c := l[r.Intn(len(l))], l[r.Intn(len(l))], l[r.Intn(len(l))]
		if terms.Compare(a, b) != -terms.Compare(b, a) || terms.Compare(a, b) <= 0 && terms.Compare(b, c) <= 0 && terms.Compare(a, c) > 0 {
			t.Fatal("no order", a, b, c)
		}
		if (terms.Compare(a, b) == 0) != reflect.DeepEqual(a, b) {
			t.Fatal("equality", a, b)
		}
	}
}

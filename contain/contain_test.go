package contain_test

import (
	"math/rand"
	"slices"
	"strings"
	"testing"

	"veilstone/answer"
	"veilstone/api"
	"veilstone/base"
	"veilstone/contain"
	"veilstone/query"
	"veilstone/sample"
)

// P26.1
func TestPart(t *testing.T) {
	for _, x := range []struct {
		a, b, told string
		want       bool
	}{
		{"A(?x)", "A(?y)", "", true}, {"A(?x)", "A(b)", "", false}, {"A(b)", "A(?x)", "", true}, {"A(b)", "A(b)", "", true}, {"A(b)", "A(c)", "", false}, {"f(?x) in 1 to 2", "f(?y) in 0 to 5", "", true}, {"f(?x) in 0 to 5", "f(?y) in 1 to 2", "", false}, {"r(?x, ?y) and r(?y, ?x)", "r(?u, ?v)", "", true}, {"r(?u, ?v)", "r(?x, ?y) and r(?y, ?x)", "", false}, {"f(a) in 1 to 5 and f(a) in 4 to 9", "f(a) in 4 to 6", "", true}, {"f(a) in 1 to 5 and f(a) in 4 to 9", "f(a) in 5 to 6", "", false}, {"f(a) in 1 to 2 and f(a) in 4 to 9", "f(?x) in 77 to 78", "", true}, {"f(a) in 1 to 2 and f(b) in 4 to 9", "f(?x) in 77 to 78", "", false}, {"f(a) in 1 to 2", "g(a) in 1 to 2", "", false},
		{"A(?x) and B(?y)", "A(?x) and B(?x)", "", false}, {"A(?x) and B(?x)", "A(?x) and B(?y)", "", true}, {"A(?x) and A(?y)", "A(?y) and A(?x)", "?x ?y", true}, {"A(?x) and B(?y)", "A(?y) and B(?x)", "?x ?y", false}, {"r(?x, ?y)", "r(?x, ?z)", "?x", true}, {"r(?x, ?y)", "r(?z, ?x)", "?x", false}, {"r(?x, ?x)", "r(?x, ?z)", "?x", true}, {"r(?x, ?z)", "r(?x, ?x)", "?x", false}, {"r(?x, a)", "r(?x, ?z)", "?x", true}, {"r(?x, ?z)", "r(?x, a)", "?x", false}, {"r(?a, ?b) and r(?b, ?c)", "r(?a, ?b) and r(?b, ?a)", "", false}, {"r(?x, ?x)", "r(?a, ?b) and r(?b, ?c) and r(?c, ?a)", "", true}, {"A(?x)", "r(?x, ?y)", "", false},
	} {
		if ok, e := contain.Part(sample.Part(x.a), sample.Part(x.b), strings.Fields(x.told)); e != api.OK || ok != x.want {
			t.Errorf("%s in %s: %v, %d", x.a, x.b, ok, e)
		}
	}
	a, bad := sample.Part("A(?x)"), api.Part{Atoms: []api.Atom{{Kind: 1, Name: "3", X: "?x"}}}
	for k, x := range []struct {
		a, b api.Part
		told []string
		e    api.Errno
	}{{a, sample.Part("A(?y)"), []string{"?x", "?y"}, api.ErrQuery}, {bad, api.Part{}, nil, api.ErrName}, {a, bad, nil, api.ErrName}, {a, api.Part{}, nil, api.ErrQuery}, {a, a, []string{"x"}, api.ErrName}} {
		if ok, e := contain.Part(x.a, x.b, x.told); e != x.e || ok {
			t.Error(k, e)
		}
	}
}

// P26.1
func TestQuery(t *testing.T) {
	for _, x := range []struct {
		a, b string
		want bool
		e    api.Errno
	}{
		{"select ?x where A(?x)", "select ?x where B(?x) or A(?x)", true, api.OK}, {"select ?x where B(?x) or A(?x)", "select ?x where A(?x)", false, api.OK}, {"select ?x where A(?x) and B(?x) or A(?x) and C(?x)", "select ?x where A(?x)", true, api.OK}, {"select where A(?x)", "select where A(?y)", true, api.OK}, {"select ?x where A(?x)", "select ?y where A(?y)", false, api.ErrArg}, {"select ?x where A(?x)", "select where A(?x)", false, api.ErrArg}, {"select ?x ?y where r(?x, ?y)", "select ?y ?x where r(?x, ?y)", false, api.ErrArg},
	} {
		if ok, e := contain.Query(sample.Query(x.a), sample.Query(x.b)); e != x.e || ok != x.want {
			t.Errorf("%s in %s: %v, %d", x.a, x.b, ok, e)
		}
	}
	q := sample.Query("select ?x where A(?x)")
	if ok, e := contain.Query(api.Query{}, api.Query{Parts: []api.Part{{Atoms: []api.Atom{{Kind: 1}}}}}); e != api.ErrQuery || ok {
		t.Error(e)
	}
	if ok, e := contain.Query(q, api.Query{Parts: []api.Part{{Atoms: []api.Atom{{Kind: 1}}}}}); e != api.ErrName || ok {
		t.Error(e)
	}
}

// P26.2
func TestCoreShrink(t *testing.T) {
	for _, x := range []struct{ p, told, want string }{
		{"r(?x, ?y) and r(?u, ?v) and A(?v)", "", "A(?v) and r(?u, ?v)"}, {"r(?x, ?y) and r(?u, ?v) and A(?v)", "?x", "A(?v) and r(?u, ?v) and r(?x, ?y)"}, {"A(?x) and A(?y)", "", "A(?x)"}, {"A(?x) and A(?y) and A(a)", "", "A(a)"}, {"A(?x) and A(?y)", "?y", "A(?y)"}, {"f(a) in 1 to 5 and f(a) in 0 to 9 and f(a) in 2 to 9", "", "f(a) in 1 to 5 and f(a) in 2 to 9"}, {"r(?a, ?b) and r(?b, ?c) and r(?d, ?d)", "", "r(?d, ?d)"}, {"B(?x) and A(?x) and B(?x)", "", "A(?x) and B(?x)"},
	} {
		if p, e := contain.Core(sample.Part(x.p), strings.Fields(x.told)); e != api.OK || !slices.Equal(p.Atoms, sample.Part(x.want).Atoms) {
			t.Errorf("%s: %v, %d", x.p, p, e)
		}
	}
	if p, e := contain.Core(api.Part{}, nil); e != api.ErrQuery || p.Atoms != nil {
		t.Error(e)
	}
	for q, want := range map[string]string{
		"select ?x where A(?x) or A(?x) and B(?x)": "select ?x where A(?x)", "select ?x where A(?x) and B(?x) or A(?x)": "select ?x where A(?x)", "select where A(?x) or A(?y)": "select where A(?x)", "select where A(a) or B(a)": "select where A(a) or B(a)", "select where A(a) or A(?y) or A(b)": "select where A(?y)",
	} {
		x, e := contain.Shrink(sample.Query(q))
		b, _ := query.Print(x)
		if e != api.OK || string(b) != want {
			t.Errorf("%s: %s, %d", q, b, e)
		}
	}
	if q, e := contain.Shrink(api.Query{}); e != api.ErrQuery || q.Parts != nil {
		t.Error(e)
	}
}

// random returns a part over a few names.
func random(r *rand.Rand) (p api.Part) {
	terms := []string{"?x", "?y", "?z", "a"}
	for range 1 + r.Intn(4) {
		x, y := terms[r.Intn(4)], terms[r.Intn(4)]
		lo := r.Intn(4)
		p.Atoms = append(p.Atoms, []api.Atom{{Kind: api.RoleQ, Name: "r", X: x, Y: y}, {Kind: api.ConceptQ, Name: []string{"A", "B"}[r.Intn(2)], X: x}, {Kind: api.RangeQ, Name: "f", X: x, Lo: lo, Hi: lo + r.Intn(5)}}[r.Intn(3)])
	}
	return p
}

// frozen returns the base of facts in which the variables of a part are individuals.
func frozen(p api.Part) api.Base {
	var l []api.Axiom
	name := func(t string) string { return strings.Replace(t, "?", "v", 1) }
	for _, a := range p.Atoms {
		switch a.Kind {
		case api.RoleQ:
			l = append(l, api.Axiom{Kind: api.LinkA, Role: a.Name, A: name(a.X), B: name(a.Y)})
		case api.ConceptQ:
			l = append(l, api.Axiom{Kind: api.TypeA, A: name(a.X), Right: api.Concept{Kind: api.NamedC, Name: a.Name}})
		case api.RangeQ:
			l = append(l, api.Axiom{Kind: api.TypeA, A: name(a.X), Right: api.Concept{Kind: api.RangeC, Name: a.Name, Lo: a.Lo, Hi: a.Hi}})
		}
	}
	b, _ := base.New(l)
	return b
}

// empty reports whether the intervals of a feature of a term have nothing in common.
func empty(p api.Part) bool {
	for _, a := range p.Atoms {
		lo, hi := a.Lo, a.Hi
		for _, b := range p.Atoms {
			if b.Kind == api.RangeQ && a.Kind == api.RangeQ && b.X == a.X {
				lo, hi = max(lo, b.Lo), min(hi, b.Hi)
			}
		}
		if lo > hi {
			return true
		}
	}
	return false
}

// P26.1, P26.2 and P26.3
func TestConsequences(t *testing.T) {
	r := rand.New(rand.NewSource(1))
	yes := 0
	for range 1500 {
		a, b, c := random(r), random(r), random(r)
		ab, _ := contain.Part(a, b, nil)
		bc, _ := contain.Part(b, c, nil)
		ac, _ := contain.Part(a, c, nil)
		if aa, _ := contain.Part(a, a, nil); !aa || ab && bc && !ac {
			t.Fatal(a, b, c)
		}
		if ab {
			yes++
		}
		if !empty(a) {
			holds, e := answer.Holds(frozen(a), b)
			if e != api.OK || holds != ab {
				t.Fatal(a, b, ab, holds)
			}
		}
		core, e := contain.Core(a, nil)
		x, _ := contain.Part(core, a, nil)
		y, _ := contain.Part(a, core, nil)
		again, _ := contain.Core(core, nil)
		if e != api.OK || !x || !y || !slices.Equal(again.Atoms, core.Atoms) {
			t.Fatal(a, core)
		}
		q := api.Query{Parts: []api.Part{a, b, c}}
		s, _ := contain.Shrink(q)
		x, _ = contain.Query(s, q)
		y, _ = contain.Query(q, s)
		if !x || !y {
			t.Fatal(q, s)
		}
		for i, p := range s.Parts {
			for k, o := range s.Parts {
				if ok, _ := contain.Part(p, o, nil); ok && i != k {
					t.Fatal("superfluous", s)
				}
			}
		}
	}
	if yes < 50 {
		t.Error(yes)
	}
}

package answer_test

import (
	"fmt"
	"math/rand"
	"slices"
	"strconv"
	"strings"
	"testing"

	"veilstone/answer"
	"veilstone/api"
	"veilstone/base"
	"veilstone/canon"
	"veilstone/entail"
	"veilstone/genuine"
	"veilstone/query"
	"veilstone/sample"
	"veilstone/terms"
	"veilstone/tolerate"
)

func show(l []api.Told) string {
	var s []string
	for _, t := range l {
		s = append(s, strconv.Itoa(t.Part)+strings.Join(append([]string{""}, t.Tuple...), " "))
	}
	return strings.Join(s, "; ")
}

// P25.1
func TestAll(t *testing.T) {
	for _, x := range []struct{ base, query, want string }{
		{"", "select ?x where A(?x)", ""}, {"", "select where A(a)", ""}, {"type a A.", "select ?x where A(?x)", "0 a"}, {"type a A. A sub some r B.", "select where r(?x, ?y) and B(?y)", "0"}, {"A sub some r B. type a A.", "select ?x where r(?x, ?y) and B(?y)", "0 a"}, {"A sub some r B. type a A.", "select where r(?y, ?y)", ""}, {"A sub some r B. type a A.", "select ?x ?y where r(?x, ?y)", ""},
		{"type a1 A. type a A. type b A. link a r b. link a1 r a.", "select ?x ?y where r(?x, ?y) or A(?x) and A(?y)", "0 a b; 0 a1 a; 1 a a; 1 a a1; 1 a b; 1 a1 a; 1 a1 a1; 1 a1 b; 1 b a; 1 b a1; 1 b b"}, {"type a A. type b B.", "select ?y ?x where A(?x) and B(?y)", "0 b a"}, {"type a A. link a r b.", "select ?x where r(a, ?x) or A(?x) or r(?x, b)", "0 b; 1 a; 2 a"},
		{"open A disjoint B. type a A. type a B. type c A. link b r a.", "select ?x where A(?x) or r(?x, ?y)", "0 c; 1 b"}, {"type a f in 1 to 3. type b f in 1 to 9.", "select ?x where f(?x) in 0 to 5", "0 a"}, {"type a A and B. A sub some r C. B sub some s C. role r sub t.", "select ?x where r(?x, ?y) and t(?x, ?y) and C(?y)", "0 a"}, {"type a A and B. A sub some r C. B sub some s C.", "select ?x where r(?x, ?y) and s(?x, ?y)", ""},
		{"chain r r sub r. link a r b. link b r c.", "select ?x ?y where r(?x, ?y)", "0 a b; 0 a c; 0 b c"},
	} {
		l, e := answer.All(sample.Base(x.base), sample.Query(x.query))
		if e != api.OK || show(l) != x.want {
			t.Errorf("%s %s: %s, %d, want %s", x.base, x.query, show(l), e, x.want)
		}
	}
	// Individuals of freezing are no answers, but they are there.
	b, _ := base.New([]api.Axiom{{Kind: api.LinkA, A: "a", Role: "r", B: "_1_x"}, {Kind: api.TypeA, A: "_1_x", Right: sample.Concept("A")}})
	if l, e := answer.All(b, sample.Query("select ?x where A(?x) or r(?x, ?y) and A(?y)")); e != api.OK || show(l) != "1 a" {
		t.Error(show(l), e)
	}
}

// P25.1
func TestHolds(t *testing.T) {
	for _, x := range []struct {
		base, part string
		want       bool
	}{{"", "A(a)", false}, {"type a A.", "A(a)", true}, {"type a A.", "A(?x)", true}, {"type a A.", "A(b)", false}, {"open A disjoint B. type a A. type a B.", "A(?x)", false}, {"A sub some r A. type a A.", "r(?x, ?y) and r(?y, ?z) and r(?z, ?w)", true}, {"A sub some r A. type a A.", "r(?x, ?y) and r(?y, ?x)", false}} {
		if ok, e := answer.Holds(sample.Base(x.base), sample.Part(x.part)); e != api.OK || ok != x.want {
			t.Error(x, ok, e)
		}
	}
	// More matches than genuine.All may return.
	var src strings.Builder
	for i := range 45 {
		src.WriteString("type a" + strconv.Itoa(i) + " A. ")
	}
	b, p := sample.Base(src.String()), sample.Part("A(?x) and A(?y) and A(?z)")
	if ok, e := answer.Holds(b, p); e != api.OK || !ok {
		t.Error(ok, e)
	}
	if x, e := answer.Show(b, p); e != api.OK || answer.Verify(b, p, x) != api.OK {
		t.Error(e)
	}
}

func big() api.Base {
	var l []api.Axiom
	for i := range 300 {
		l = append(l, sample.Axiom("type a"+strconv.Itoa(i)+" A"), sample.Axiom("A sub some r {a"+strconv.Itoa(i)+"}"))
	}
	b, _ := base.New(l)
	return b
}

// P25.1 and P25.2
func TestErrors(t *testing.T) {
	bad := api.Base{Axioms: sample.Axioms("B sub A. A sub B.")}
	chain := sample.Base("chain r r sub r. open everything sub nothing.")
	simple := sample.Part("r(?x, ?y)")
	for k, x := range []struct {
		b api.Base
		p api.Part
		e api.Errno
	}{{bad, api.Part{}, api.ErrOrder}, {chain, api.Part{}, api.ErrQuery}, {chain, simple, api.ErrSimple}, {chain, sample.Part("A(?x)"), api.ErrOpen}, {big(), sample.Part("A(?x)"), api.ErrLimit}} {
		if ok, e := answer.Holds(x.b, x.p); e != x.e || ok {
			t.Error(k, e)
		}
		if l, e := answer.All(x.b, api.Query{Parts: []api.Part{x.p}}); e != x.e || l != nil {
			t.Error(k, e)
		}
		if y, e := answer.Show(x.b, x.p); e != x.e || y.Facts != nil {
			t.Error(k, e)
		}
		if e := answer.Verify(x.b, x.p, api.Evidence{}); e != x.e {
			t.Error(k, e)
		}
	}
	if l, e := answer.All(chain, sample.Query("select ?x ?y where r(?x, ?y)")); e != api.ErrOpen || l != nil {
		t.Error(e)
	}
	if x, e := answer.Show(api.Base{}, sample.Part("A(a)")); e != api.ErrUnproved || x.Facts != nil {
		t.Error(e)
	}
}

// P25.2
func TestVerify(t *testing.T) {
	b := sample.Base("B sub A. type a B. type a f in 1 to 3. A sub some r C. role r sub s. open D disjoint E. type c D. type c E.")
	p := sample.Part("A(a) and s(a, ?y) and C(?y) and f(a) in 0 to 5")
	x, e := answer.Show(b, p)
	if e != api.OK || len(x.Facts) != 4 || len(x.Proofs) != 4 || answer.Verify(b, p, x) != api.OK {
		t.Fatal(x, e)
	}
	want := []api.Fact{{Kind: 1, A: "{a}", B: "A"}, {Kind: 2, A: "{a}", R: "s", B: "C"}, {Kind: 1, A: "C", B: "C"}, {Kind: 3, A: "{a}", R: "f", Lo: 0, Hi: 5}}
	if !slices.Equal(x.Facts, want) {
		t.Error(x.Facts)
	}
	for k, spoil := range []func(x *api.Evidence) api.Errno{
		func(x *api.Evidence) api.Errno { x.Match.Binds = x.Match.Binds[1:]; return api.ErrMatch }, func(x *api.Evidence) api.Errno { x.Match.Binds[0].Node = "{a}"; return api.ErrMatch }, func(x *api.Evidence) api.Errno { x.Facts = x.Facts[:3]; return api.ErrProof }, func(x *api.Evidence) api.Errno { x.Facts[3].Hi = 4; return api.ErrProof }, func(x *api.Evidence) api.Errno { x.Proofs = x.Proofs[:3]; return api.ErrProof }, func(x *api.Evidence) api.Errno {
			x.Proofs = append(x.Proofs, x.Proofs[0])
			return api.ErrProof
		}, func(x *api.Evidence) api.Errno {
			x.Proofs[0], x.Proofs[1] = x.Proofs[1], x.Proofs[0]
			return api.ErrProof
		}, func(x *api.Evidence) api.Errno { x.Proofs[2] = api.Proof{}; return api.ErrProof },
	} {
		y := api.Evidence{Match: api.Match{Binds: slices.Clone(x.Match.Binds)}, Facts: slices.Clone(x.Facts), Proofs: slices.Clone(x.Proofs)}
		want := spoil(&y)
		if e := answer.Verify(b, p, y); e != want {
			t.Error(k, e)
		}
	}
	// Evidence from axioms that are not in the effective base.
	other := sample.Base("D disjoint E. type c D. ")
	q := sample.Part("D(c)")
	y, e := answer.Show(other, q)
	if e != api.OK || answer.Verify(b, q, y) != api.ErrMatch {
		t.Error(e)
	}
}

// P25.1, P25.2 and P25.3
func TestRandom(t *testing.T) {
	r := rand.New(rand.NewSource(1))
	pool := sample.Axioms("type a A. type b A. A sub some r B. B sub some r B. B sub some s A. role r sub t. link a r b. link b s b. B sub some r {a}. type b f in 1 to 3. B sub f in 2 to 5. type c B. open B disjoint C. type c C. type b C. link c s a.")
	for range 300 {
		var l []api.Axiom
		for _, a := range pool {
			if r.Intn(2) == 0 {
				l = append(l, a)
			}
		}
		b, _ := base.New(l)
		var q api.Query
		for range 1 + r.Intn(2) {
			p := api.Part{Atoms: []api.Atom{{Kind: api.ConceptQ, Name: "A", X: "?x"}, {Kind: api.RoleQ, Name: "t", X: "?x", Y: "?y"}}[:1+r.Intn(2)]}
			terms := []string{"?x", "?y", "?z", "a"}
			for range 1 + r.Intn(3) {
				x, y := terms[r.Intn(4)], terms[r.Intn(4)]
				p.Atoms = append(p.Atoms, []api.Atom{{Kind: api.RoleQ, Name: []string{"r", "s", "t"}[r.Intn(3)], X: x, Y: y}, {Kind: api.ConceptQ, Name: []string{"A", "B"}[r.Intn(2)], X: x}, {Kind: api.RangeQ, Name: "f", X: x, Lo: r.Intn(2), Hi: 4 + r.Intn(2)}}[min(r.Intn(4), 2)])
			}
			q.Parts = append(q.Parts, p)
		}
		q.Told = [][]string{nil, {"?x"}, {"?x", "?y"}}[r.Intn(3)]
		if query.Check(q, b.Axioms) != api.OK {
			continue
		}
		got, e := answer.All(b, q)
		if e != api.OK {
			t.Fatal(b, e)
		}
		// By the definition: an instance for each tuple.
		effective, _ := tolerate.Effective(b)
		m, _ := canon.Build(effective.Axioms)
		n, _ := terms.Vocabulary(effective.Axioms)
		var want []api.Told
		for i := range q.Parts {
			var try func(tuple []string)
			try = func(tuple []string) {
				if len(tuple) < len(q.Told) {
					for _, name := range n.Individuals {
						try(append(slices.Clone(tuple), name))
					}
					return
				}
				told := api.Told{Part: i, Tuple: tuple}
				p, e := query.Instance(q, told)
				if e != api.OK {
					t.Fatal(e)
				}
				matches, e := genuine.All(m, p, 65536)
				holds, e2 := answer.Holds(b, p)
				if e != api.OK || e2 != api.OK || holds != (len(matches) > 0) {
					t.Fatal(b, p, holds, matches)
				}
				x, e := answer.Show(b, p)
				if holds != (e == api.OK) || holds && answer.Verify(b, p, x) != api.OK {
					t.Fatal(b, p, e)
				}
				if holds {
					want = append(want, told)
				}
			}
			try(nil)
		}
		if show(got) != show(want) {
			t.Fatal(b, q, show(got), show(want))
		}
		renamed, _ := query.Rename(q)
		if again, _ := answer.All(b, renamed); show(again) != show(got) {
			t.Fatal("renaming", q)
		}
		more, _ := base.New(append(l, pool[r.Intn(len(pool))]))
		if ok, _ := entail.Consistent(more); ok {
			x, _ := answer.All(more, q)
			for _, told := range got {
				if !slices.ContainsFunc(x, func(y api.Told) bool { return fmt.Sprint(y) == fmt.Sprint(told) }) {
					t.Fatal("lost", told)
				}
			}
		}
	}
}

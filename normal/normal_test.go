package normal_test

import (
	"fmt"
	"math/rand"
	"slices"
	"strings"
	"testing"

	"veilstone/api"
	"veilstone/normal"
	"veilstone/sample"
	"veilstone/terms"
)

// show prints pieces without From.
func show(l []api.Piece) string {
	var s []string
	for _, p := range l {
		f := map[int]string{
			api.SubP: "Sub %s|%[3]s", api.AndP: "And %s|%s|%s", api.SomeP: "Some %[1]s|%[4]s|%[3]s", api.FillP: "Fill %[4]s|%[1]s|%[3]s",
			api.RoleP: "Role %[4]s|%[6]s", api.ChainP: "Chain %[4]s|%[5]s|%[6]s", api.LoopP: "Loop %[4]s", api.InP: "In %[1]s|%[4]s|%[7]d|%[8]d", api.OutP: "Out %[4]s|%[7]d|%[8]d|%[3]s",
		}[p.Kind]
		x := fmt.Sprintf(f, p.A, p.B, p.C, p.R, p.S, p.T, p.Lo, p.Hi)
		if i := strings.Index(x, "%!(EXTRA"); i >= 0 {
			x = x[:i]
		}
		s = append(s, x)
	}
	return strings.Join(s, "; ")
}

func showFacts(l []api.Fact) string {
	var s []string
	for _, f := range l {
		s = append(s, fmt.Sprint(f.Kind, " ", f.A, "|", f.R, "|", f.B))
	}
	return strings.Join(s, "; ")
}

// P9.1
func TestAtom(t *testing.T) {
	for src, want := range map[string]string{"everything": "*", "nothing": "!", "A": "A", "p:A": "p:A", "{a}": "{a}", "A and B": "<A and B>", "some r (A and {b})": "<some r (A and {b})>", "f in -1 to 2": "<f in -1 to 2>"} {
		if s, e := normal.Atom(sample.Concept(src)); e != api.OK || s != want {
			t.Errorf("%s: %q, %d", src, s, e)
		}
	}
	if s, e := normal.Atom(api.Concept{Kind: api.NominalC, Name: "_1_x"}); e != api.OK || s != "{_1_x}" {
		t.Error(s, e)
	}
	for _, c := range []api.Concept{{}, {Kind: api.NamedC}, {Kind: api.AndC, Parts: []api.Concept{{Kind: api.TopC}}}} {
		if s, e := normal.Atom(c); e != terms.CheckConcept(c) || s != "" {
			t.Error(c, s, e)
		}
	}
}

// P9.1
func TestPieces(t *testing.T) {
	for src, want := range map[string]string{
		"A and B sub some r C": "And A|B|<A and B>; Some <some r C>|r|C; Sub <A and B>|<some r C>",
		"A sub B":              "Sub A|B", "A sub A": "Sub A|A", "A disjoint A": "And A|A|!", "age in 0 to 17 sub Minor": "Out age|0|17|<age in 0 to 17>; Sub <age in 0 to 17>|Minor",
		"type a some r everything": "Some <some r everything>|r|*; Sub {a}|<some r everything>", "chain r r sub r": "Chain r|r|r", "chain r s t sub u": "Chain r|s|r.s; Chain r.s|t|u", "chain r s t u sub v": "Chain r|s|r.s; Chain r.s|t|r.s.t; Chain r.s.t|u|v",
		"role r sub s": "Role r|s", "reflexive r": "Loop r", "link a r b": "Some {a}|r|{b}", "domain r A and B": "Sub <A and B>|A; Sub <A and B>|B; Fill r|*|<A and B>", "domain r nothing": "Fill r|*|!",
		"A and B and C sub D":                      "And A|B|<A and B>; And <A and B>|C|<A and B and C>; Sub <A and B and C>|D",
		"A same some r B":                          "Some <some r B>|r|B; Sub A|<some r B>; Fill r|B|<some r B>; Sub <some r B>|A",
		"A same A":                                 "Sub A|A",
		"some r A disjoint f in 1 to 2":            "Out f|1|2|<f in 1 to 2>; Fill r|A|<some r A>; And <f in 1 to 2>|<some r A>|!",
		"some r (A and {b}) sub B and f in 1 to 2": "And A|{b}|<A and {b}>; Fill r|<A and {b}>|<some r (A and {b})>; Sub <B and f in 1 to 2>|B; Sub <B and f in 1 to 2>|<f in 1 to 2>; In <f in 1 to 2>|f|1|2; Sub <some r (A and {b})>|<B and f in 1 to 2>",
		"type a some r some s B":                   "Some <some r some s B>|r|<some s B>; Some <some s B>|s|B; Sub {a}|<some r some s B>",
	} {
		p, e := normal.Pieces([]api.Axiom{sample.Axiom("A sub B"), sample.Axiom(src)})
		if e != api.OK || show(p[1:]) != want || len(normal.Of(p, 1)) != len(p)-1 || p[0].From != 0 {
			t.Errorf("%s:\n%s\n%s", src, show(p[1:]), want)
		}
	}
	// Axioms that are not tidy; a piece that occurs twice in an axiom.
	a := sample.Axiom("A sub B")
	a.Left = api.Concept{Kind: api.AndC, Parts: []api.Concept{a.Left, {Kind: api.TopC}, a.Left}}
	a.Right = api.Concept{Kind: api.AndC, Parts: []api.Concept{a.Right, a.Right}}
	if p, e := normal.Pieces([]api.Axiom{a}); e != api.OK || show(p) != "And A|*|<A and everything>; And <A and everything>|A|<A and everything and A>; Sub <B and B>|B; Sub <A and everything and A>|<B and B>" {
		t.Error(show(p), e)
	}
}

// P9.1
func TestPiecesErrors(t *testing.T) {
	one := sample.Axiom("A sub B")
	if p, e := normal.Pieces(append(slices.Repeat([]api.Axiom{one}, 1024), api.Axiom{})); e != api.ErrLimit || p != nil {
		t.Error(e)
	}
	if p, e := normal.Pieces([]api.Axiom{one, {Kind: api.ReflexiveA}, {}}); e != api.ErrName || p != nil {
		t.Error(e)
	}
	if p, e := normal.Pieces(nil); e != api.OK || len(p) != 0 {
		t.Error(e)
	}
	// 16 pieces, and 17.
	big := sample.Axiom("A sub some r some r some r some r some r some r some r B and C and D and E and F and G and H and I")
	more := sample.Axiom("A and X sub some r some r some r some r some r some r some r B and C and D and E and F and G and H and I")
	l := slices.Repeat([]api.Axiom{big}, 1024)
	if p, e := normal.Pieces(l); e != api.OK || len(p) != 16384 {
		t.Error(e, len(p))
	}
	l[0] = more
	if p, e := normal.Pieces(l); e != api.ErrLimit || p != nil {
		t.Error(e, len(p))
	}
}

// P9.2
func TestGoal(t *testing.T) {
	for src, want := range map[string]string{
		"A sub some r B":            "Sub A|*; Sub <some r B>|*; Fill r|B|<some r B> => 1 A||<some r B>",
		"some r B sub A and C":      "Sub <some r B>|*; Sub <A and C>|*; Some <some r B>|r|B; And A|C|<A and C> => 1 <some r B>||<A and C>",
		"A sub A":                   "Sub A|* => 1 A||A",
		"A same some r B":           "Sub A|*; Sub <some r B>|*; Fill r|B|<some r B>; Some <some r B>|r|B => 1 A||<some r B>; 1 <some r B>||A",
		"A same A":                  "Sub A|* => 1 A||A; 1 A||A",
		"A and B disjoint some r C": "Sub <some r C and (A and B)>|*; Sub !|*; Sub <some r C and (A and B)>|<some r C>; Some <some r C>|r|C; Sub <some r C and (A and B)>|<A and B>; Sub <A and B>|A; Sub <A and B>|B => 1 <some r C and (A and B)>||!",
		"A disjoint B":              "Sub <A and B>|*; Sub !|*; Sub <A and B>|A; Sub <A and B>|B => 1 <A and B>||!",
		"domain r A and B":          "Sub <some r everything>|*; Sub <A and B>|*; Some <some r everything>|r|*; And A|B|<A and B> => 1 <some r everything>||<A and B>",
		"type a f in 1 to 2":        "Sub {a}|*; Sub <f in 1 to 2>|*; Out f|1|2|<f in 1 to 2> => 1 {a}||<f in 1 to 2>",
		"link a r b":                "Sub {a}|*; Sub {b}|* => 2 {a}|r|{b}", "link a r a": "Sub {a}|* => 2 {a}|r|{a}",
	} {
		p, f, e := normal.Goal(sample.Axiom(src))
		if got := show(p) + " => " + showFacts(f); e != api.OK || got != want {
			t.Errorf("%s: %d\n%s\n%s", src, e, got, want)
		}
		if len(normal.Of(p, -1)) != len(p) {
			t.Error("From", p)
		}
	}
	for _, x := range []struct {
		a api.Axiom
		e api.Errno
	}{{sample.Axiom("role r sub s"), api.ErrAxiom}, {sample.Axiom("chain r r sub s"), api.ErrAxiom}, {sample.Axiom("reflexive r"), api.ErrAxiom}, {api.Axiom{}, api.ErrAxiom}, {api.Axiom{Kind: api.ReflexiveA}, api.ErrName}, {api.Axiom{Kind: api.SubA}, api.ErrConcept}} {
		if p, f, e := normal.Goal(x.a); e != x.e || p != nil || f != nil {
			t.Error(x.a, e)
		}
	}
	// Both concepts together are larger than a concept may be.
	c := sample.Concept("some r some r some r some r some r some r some r (A and B)")
	if p, _, e := normal.Goal(api.Axiom{Kind: api.DisjointA, Left: c, Right: c}); e != api.OK || normal.Check(p) != api.OK || p[0].A == "<>" {
		t.Error(e, show(p))
	}
}

// P9.3
func TestAtomsOf(t *testing.T) {
	p := []api.Piece{{Kind: 1, A: "B", C: "A", From: 3}, {Kind: 77, B: "", C: "%", R: "r", From: -1}, {A: "A", B: "{b}", From: 3}}
	if l := normal.Atoms(p); !slices.Equal(l, []string{"%", "A", "B", "{b}"}) {
		t.Error(l)
	}
	if l := normal.Of(p, 3); !slices.Equal(l, []int{0, 2}) || len(normal.Of(p, 0)) != 0 || len(normal.Atoms(nil)) != 0 {
		t.Error(l)
	}
}

// P9.3
func TestCheck(t *testing.T) {
	good := []api.Piece{{Kind: 1, A: "A", C: "*", From: -1}, {Kind: 2, A: "{a}", B: "!", C: "<A>", From: 1023}, {Kind: 3, A: "_1_x", R: "r.s.t.u", C: "{_1}"}, {Kind: 4, A: "<>>", R: "r", C: "B"}, {Kind: 5, R: "r", T: "_s"}, {Kind: 6, R: "r.s", S: "t", T: "r.s.t"}, {Kind: 7, R: "p:r"}, {Kind: 8, A: "A", R: "f", Lo: -1 << 40, Hi: 1 << 40}, {Kind: 9, R: "_f", Lo: 5, Hi: 5, C: "p:A"}}
	if e := normal.Check(good); e != api.OK {
		t.Error(e)
	}
	for k, p := range good {
		for i, spoil := range []func(p *api.Piece){
			func(p *api.Piece) { p.A += "}" }, func(p *api.Piece) { p.B += "}" }, func(p *api.Piece) { p.C += "}" }, func(p *api.Piece) { p.R += "." }, func(p *api.Piece) { p.S += "." }, func(p *api.Piece) { p.T += "." },
			func(p *api.Piece) { p.Lo = p.Hi + 1 }, func(p *api.Piece) { p.Hi = 1<<40 + 1 }, func(p *api.Piece) { p.Lo = -1<<40 - 1 }, func(p *api.Piece) { p.From = -2 }, func(p *api.Piece) { p.From = 1024 }, func(p *api.Piece) { p.Kind = 0 }, func(p *api.Piece) { p.Kind = 10 }, func(p *api.Piece) { p.Kind = p.Kind%9 + 1 },
		} {
			q := p
			spoil(&q)
			if p.Kind == api.SomeP && q.Kind == api.FillP { // both have the same fields
				continue
			}
			if e := normal.Check([]api.Piece{good[0], q}); e != api.ErrArg {
				t.Errorf("case %d %d: %v, %d", k, i, q, e)
			}
		}
	}
	for _, s := range []string{"", "{}", "{a", "a}", "{a b}", "<>", "<", "<a", "a>", "and", "**", "*!", "{{a}}", "{*}", "A.B", "a b"} {
		if e := normal.Check([]api.Piece{{Kind: 1, A: s, C: "A"}}); e != api.ErrArg {
			t.Errorf("atom %q: %d", s, e)
		}
	}
	for _, s := range []string{"", ".", "r.", ".r", "r..s", "r.s.t.u.v", "*", "{r}", "r s", "in"} {
		if e := normal.Check([]api.Piece{{Kind: 7, R: s}}); e != api.ErrArg {
			t.Errorf("role %q: %d", s, e)
		}
	}
	if e := normal.Check([]api.Piece{{Kind: 8, A: "A", R: "f.g"}}); e != api.ErrArg {
		t.Error(e)
	}
	many := slices.Repeat(good[:1], 16384)
	if e := normal.Check(many); e != api.OK {
		t.Error(e)
	}
	if e := normal.Check(append(many, api.Piece{})); e != api.ErrLimit {
		t.Error(e)
	}
}

func random(r *rand.Rand, depth int) api.Concept {
	k := r.Intn(7)
	if depth == 0 {
		k = r.Intn(5)
	}
	switch k {
	case 0:
		return api.Concept{Kind: 1 + r.Intn(2)}
	case 1:
		return api.Concept{Kind: api.NominalC, Name: []string{"a", "A"}[r.Intn(2)]}
	case 2:
		return api.Concept{Kind: api.RangeC, Name: "f", Lo: r.Intn(2), Hi: 1 + r.Intn(2)}
	case 5:
		return api.Concept{Kind: api.SomeC, Name: "r", Parts: []api.Concept{random(r, depth-1)}}
	case 6:
		return api.Concept{Kind: api.AndC, Parts: []api.Concept{random(r, depth-1), random(r, depth-1), random(r, depth-1)}}
	}
	return api.Concept{Kind: api.NamedC, Name: []string{"A", "B"}[r.Intn(2)]}
}

// P9.4
func TestConsequences(t *testing.T) {
	r := rand.New(rand.NewSource(1))
	seen := map[string]api.Concept{}
	for range 2000 {
		a := api.Axiom{Kind: 1 + r.Intn(3), Left: random(r, 3), Right: random(r, 3)}
		for _, c := range []api.Concept{a.Left, a.Right} {
			s, _ := normal.Atom(c)
			if d, ok := seen[s]; ok && terms.Compare(c, d) != 0 {
				t.Fatal("the same atom", s)
			}
			seen[s] = c
		}
		if terms.CheckAxiom(a) != api.OK {
			continue
		}
		p, e := normal.Pieces([]api.Axiom{a})
		g, f, e2 := normal.Goal(a)
		if e != api.OK || e2 != api.OK || normal.Check(p) != api.OK || normal.Check(g) != api.OK || len(f) == 0 {
			t.Fatal(a, e, e2)
		}
		if len(p) > 4*(terms.Size(a.Left)+terms.Size(a.Right))+3 {
			t.Fatal("too many pieces", a)
		}
		for _, l := range [][]api.Piece{p, g} {
			once := map[api.Piece]bool{}
			for _, x := range l {
				if once[x] {
					t.Fatal("twice", x)
				}
				once[x] = true
			}
		}
		b := sample.Axiom("some r A sub B")
		both, _ := normal.Pieces([]api.Axiom{b, a})
		first, _ := normal.Pieces([]api.Axiom{b})
		for _, x := range p {
			x.From++
			first = append(first, x)
		}
		if !slices.Equal(both, first) {
			t.Fatal("a list", a)
		}
	}
}

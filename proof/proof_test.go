package proof_test

import (
	"math/rand"
	"slices"
	"testing"

	"veilstone/api"
	"veilstone/normal"
	"veilstone/proof"
	"veilstone/sample"
	"veilstone/saturate"
)

func sub(a, b string) api.Fact     { return api.Fact{Kind: api.SubF, A: a, B: b} }
func link(a, r, b string) api.Fact { return api.Fact{Kind: api.LinkF, A: a, R: r, B: b} }
func ranged(a, r string, lo, hi int) api.Fact {
	return api.Fact{Kind: api.RangeF, A: a, R: r, Lo: lo, Hi: hi}
}

// correct checks a step by the tables of the chapters 10 and 11.
func correct(p []api.Piece, facts []api.Fact, s api.Step) bool {
	var x api.Piece
	if s.Piece >= 0 {
		if s.Piece >= len(p) {
			return false
		}
		x = p[s.Piece]
		x.From = 0
	}
	var f, g api.Fact
	for i, n := range s.From {
		if n < 0 || n >= len(facts) || i > 1 {
			return false
		}
		if i == 0 {
			f = facts[n]
		} else {
			g = facts[n]
		}
	}
	if many := []int{0, 0, 0, 1, 2, 1, 1, 2, 2, 2, 0, 1, 2, 2, 1, 1, 1}[s.Rule]; many != len(s.From) {
		return false
	}
	if uses := slices.Contains([]int{3, 4, 5, 6, 7, 8, 10, 11, 14}, s.Rule); uses != (s.Piece >= 0) || !uses && s.Piece != -1 {
		return false
	}
	c := s.Fact
	atom := slices.Contains(append(normal.Atoms(p), "*", "!"), c.A)
	isF, isG := f.Kind == api.SubF, g.Kind == api.SubF
	isLink := f.Kind == api.LinkF
	isRange := f.Kind == api.RangeF
	switch s.Rule {
	case 1:
		return atom && c == sub(c.A, c.A)
	case 2:
		return atom && c == sub(c.A, "*")
	case 3:
		return isF && x == api.Piece{Kind: api.SubP, A: f.B, C: c.B} && c == sub(f.A, c.B)
	case 4:
		return isF && isG && f.A == g.A && x == api.Piece{Kind: api.AndP, A: f.B, B: g.B, C: c.B} && c == sub(f.A, c.B)
	case 5:
		return isF && x == api.Piece{Kind: api.SomeP, A: f.B, R: c.R, C: c.B} && c == link(f.A, c.R, c.B)
	case 6:
		return isLink && x == api.Piece{Kind: api.RoleP, R: f.R, T: c.R} && c == link(f.A, c.R, f.B)
	case 7:
		return isLink && g.Kind == api.LinkF && g.A == f.B && x == api.Piece{Kind: api.ChainP, R: f.R, S: g.R, T: c.R} && c == link(f.A, c.R, g.B)
	case 8:
		return isLink && isG && g.A == f.B && x == api.Piece{Kind: api.FillP, R: f.R, A: g.B, C: c.B} && c == sub(f.A, c.B)
	case 9:
		return isLink && g == sub(f.B, "!") && c == sub(f.A, "!")
	case 10:
		return atom && x == api.Piece{Kind: api.LoopP, R: c.R} && c == link(c.A, c.R, c.A)
	case 11:
		return isF && x == api.Piece{Kind: api.InP, A: f.B, R: c.R, Lo: c.Lo, Hi: c.Hi} && c == ranged(f.A, c.R, c.Lo, c.Hi)
	case 12:
		return isRange && g.Kind == api.RangeF && f.A == g.A && f.R == g.R && c == ranged(f.A, f.R, max(f.Lo, g.Lo), min(f.Hi, g.Hi)) && c.Lo <= c.Hi
	case 13:
		return isRange && g.Kind == api.RangeF && f.A == g.A && f.R == g.R && max(f.Lo, g.Lo) > min(f.Hi, g.Hi) && c == sub(f.A, "!")
	case 14:
		return isRange && x == api.Piece{Kind: api.OutP, R: f.R, Lo: x.Lo, Hi: x.Hi, C: c.B} && x.Lo <= f.Lo && f.Hi <= x.Hi && c == sub(f.A, c.B)
	case 15:
		return f == sub(c.A, "!")
	case 16:
		return isRange && c == ranged(f.A, f.R, c.Lo, c.Hi) && c.Lo <= f.Lo && f.Hi <= c.Hi
	}
	return false
}

// expectProof checks a proof of a fact.
func expectProof(t *testing.T, p []api.Piece, f api.Fact, x api.Proof) {
	t.Helper()
	var facts []api.Fact
	for i, s := range x.Steps {
		if !correct(p, facts, s) {
			t.Fatalf("step %d of %v is not correct", i, x.Steps)
		}
		facts = append(facts, s.Fact)
	}
	if len(facts) == 0 || facts[len(facts)-1] != f || len(facts) > api.MaxSteps {
		t.Fatalf("not a proof of %v: %v", f, x)
	}
}

func pieces(src string) []api.Piece {
	p, e := normal.Pieces(sample.Axioms(src))
	if e != api.OK {
		panic(e)
	}
	return p
}

const many = `A and B sub some r C. some r C sub D. role r sub s. chain s s sub t. reflexive u. domain t E. type a f in 1 to 5. type a f in 4 to 9. f in 0 to 7 sub A. type a B.
	link a s b. link b s c. type z f in 1 to 2 and f in 3 to 4. link y r z. A disjoint F. type b A and F.`

// P11.1: proofs of all facts of a closure, and of what follows from them.
func TestFind(t *testing.T) {
	p := pieces(many)
	c, _ := saturate.All(p, api.MaxBudget)
	used := map[int]bool{}
	check := func(f api.Fact) {
		x, e := proof.Find(p, f, api.MaxBudget)
		if e != api.OK {
			t.Fatal(f, e)
		}
		expectProof(t, p, f, x)
		for _, s := range x.Steps {
			used[s.Rule] = true
			if !saturate.Derives(c, s.Fact) {
				t.Fatal("not derived", s)
			}
		}
		y, e := proof.Trim(x)
		if e != api.OK {
			t.Fatal(e)
		}
		expectProof(t, p, f, y)
		expectProof(t, append(slices.Clone(p), pieces("X sub Y.")...), f, x)
	}
	for _, f := range c.Facts {
		check(f)
		if f.Kind == api.RangeF {
			check(ranged(f.A, f.R, f.Lo-1, f.Hi))
			check(ranged(f.A, f.R, -1<<40, 1<<40))
		}
	}
	check(sub("{b}", "anything"))
	check(link("{z}", "r.s", "?"))
	check(ranged("{b}", "g", 0, 0))
	check(ranged("{z}", "f", 100, 100))
	for rule := 1; rule <= 16; rule++ {
		if !used[rule] {
			t.Errorf("rule %d was not used", rule)
		}
	}
}

// P11.1
func TestFindErrors(t *testing.T) {
	for _, x := range []struct {
		p      []api.Piece
		f      api.Fact
		budget int
		e      api.Errno
	}{
		{nil, sub("*", "*"), 1 << 30, api.OK}, {nil, sub("A", "*"), 1 << 30, api.ErrUnproved}, {nil, api.Fact{}, 0, api.ErrArg}, {[]api.Piece{{}}, sub("", "*"), -1, api.ErrArg}, {[]api.Piece{{}}, sub("*", "*"), 5, api.ErrArg}, {nil, sub("*", "*"), 2, api.ErrBudget}, {nil, sub("*", "*"), 3, api.OK}, {nil, sub("*", "*"), -1, api.ErrArg},
		{nil, sub("*", ""), 9, api.ErrArg}, {nil, api.Fact{Kind: 1, A: "*", B: "*", R: "r"}, 9, api.ErrArg}, {nil, api.Fact{Kind: 1, A: "*", B: "*", Lo: 1}, 9, api.ErrArg}, {nil, link("*", "", "*"), 9, api.ErrArg}, {nil, link("", "r", "*"), 9, api.ErrArg}, {nil, link("*", "r", ""), 9, api.ErrArg}, {nil, link("*", "r", "*"), 9, api.ErrUnproved}, {nil, api.Fact{Kind: 2, A: "*", B: "*", R: "r", Hi: 1}, 9, api.ErrArg},
		{nil, ranged("*", "f", 2, 1), 9, api.ErrArg}, {nil, ranged("*", "f", -1<<40-1, 1), 9, api.ErrArg}, {nil, ranged("*", "f", 1, 1<<40+1), 9, api.ErrArg}, {nil, ranged("", "f", 1, 1), 9, api.ErrArg}, {nil, ranged("*", "", 1, 1), 9, api.ErrArg}, {nil, api.Fact{Kind: 3, A: "*", B: "*", R: "r"}, 9, api.ErrArg}, {nil, ranged("*", "f", 1, 1), 9, api.ErrUnproved}, {nil, api.Fact{Kind: 4, A: "*", B: "*"}, 9, api.ErrArg},
		{slices.Repeat(pieces("A sub B."), 16385), sub("A", "B"), 9, api.ErrLimit},
	} {
		y, e := proof.Find(x.p, x.f, x.budget)
		if e != x.e || (e == api.OK) != (len(y.Steps) == 1) {
			t.Error(x.f, x.budget, e, y)
		}
	}
}

// P11.2
func TestPiecesAxioms(t *testing.T) {
	x := api.Proof{Steps: []api.Step{{Piece: 2}, {Piece: -1}, {Piece: 0}, {Piece: 2}, {Rule: 77, Piece: 3}, {Piece: 1}}}
	p := []api.Piece{{From: 5}, {From: -1}, {From: 5}, {From: 3}}
	if l := proof.Pieces(x); !slices.Equal(l, []int{0, 1, 2, 3}) {
		t.Error(l)
	}
	if l, e := proof.Axioms(p, x); e != api.OK || !slices.Equal(l, []int{3, 5}) {
		t.Error(l, e)
	}
	if l, e := proof.Axioms(p[:3], x); e != api.ErrArg || l != nil {
		t.Error(l, e)
	}
	x.Steps[1].Piece = -2
	if l, e := proof.Axioms(p, x); e != api.ErrArg || l != nil || len(proof.Pieces(x)) != 4 {
		t.Error(l, e)
	}
	if l, e := proof.Axioms(nil, api.Proof{}); e != api.OK || len(l) != 0 || len(proof.Pieces(api.Proof{})) != 0 {
		t.Error(l, e)
	}
}

func step(a string, from ...int) api.Step { return api.Step{Fact: sub(a, a), Piece: -1, From: from} }

// P11.2
func TestTrimDepth(t *testing.T) {
	for _, x := range []struct {
		steps, want []api.Step
		depth       int
	}{
		{[]api.Step{step("A")}, []api.Step{step("A")}, 1},
		{[]api.Step{step("A"), step("B"), step("C", 0, 0)}, []api.Step{step("A"), step("C", 0, 0)}, 2},
		{[]api.Step{step("A"), step("B", 0), step("A", 1), step("C", 2)}, []api.Step{step("A"), step("C", 0)}, 4},
		{[]api.Step{step("Z"), step("A"), step("B"), step("C", 1), step("B", 3, 2), step("D", 4, 3), step("D", 5)}, []api.Step{step("A"), step("B"), step("C", 0), step("D", 1, 2)}, 5},
		{[]api.Step{step("A"), step("B", 0), step("C", 1), step("A", 2)}, []api.Step{step("A")}, 4},
	} {
		before := slices.Clone(x.steps)
		y, e := proof.Trim(api.Proof{Steps: x.steps})
		same := func(s, u api.Step) bool {
			return s.Fact == u.Fact && s.Piece == u.Piece && s.Rule == u.Rule && slices.Equal(s.From, u.From)
		}
		if e != api.OK || !slices.EqualFunc(y.Steps, x.want, same) || !slices.EqualFunc(before, x.steps, same) {
			t.Errorf("%v: %v, %d", x.steps, y, e)
		}
		if n, e := proof.Depth(api.Proof{Steps: x.steps}); e != api.OK || n != x.depth {
			t.Error(x.steps, n, e)
		}
	}
	for _, steps := range [][]api.Step{nil, {step("A", 0)}, {step("A"), step("B", -1)}, {step("A"), step("B", 1)}, {step("A"), step("B", 2), step("C")}} {
		if y, e := proof.Trim(api.Proof{Steps: steps}); e != api.ErrArg || y.Steps != nil {
			t.Error(steps, e)
		}
		if n, e := proof.Depth(api.Proof{Steps: steps}); e != api.ErrArg || n != 0 {
			t.Error(steps, e)
		}
	}
}

// P11.3
func TestTrimConsequences(t *testing.T) {
	r := rand.New(rand.NewSource(1))
	for range 2000 {
		var l []api.Step
		for i := range 1 + r.Intn(10) {
			s := step(string(rune('A' + r.Intn(6))))
			for range r.Intn(3) {
				if i > 0 {
					s.From = append(s.From, r.Intn(i))
				}
			}
			l = append(l, s)
		}
		y, e := proof.Trim(api.Proof{Steps: l})
		if e != api.OK || y.Steps[len(y.Steps)-1].Fact != l[len(l)-1].Fact {
			t.Fatal(l, y, e)
		}
		used, facts := map[int]bool{len(y.Steps) - 1: true}, map[api.Fact]bool{}
		for i, s := range y.Steps {
			if facts[s.Fact] {
				t.Fatal("twice", y)
			}
			facts[s.Fact] = true
			for _, n := range s.From {
				if n >= i {
					t.Fatal("order", y)
				}
				used[n] = true
			}
		}
		if len(used) != len(y.Steps) {
			t.Fatal("not used", y)
		}
		z, _ := proof.Trim(y)
		if len(z.Steps) != len(y.Steps) {
			t.Fatal("trimmed again", y, z)
		}
	}
}

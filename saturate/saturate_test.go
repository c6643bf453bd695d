package saturate_test

import (
	"cmp"
	"fmt"
	"math/rand"
	"slices"
	"strconv"
	"strings"
	"testing"

	"veilstone/api"
	"veilstone/normal"
	"veilstone/sample"
	"veilstone/saturate"
)

func sub(a, b string) api.Fact     { return api.Fact{Kind: api.SubF, A: a, B: b} }
func link(a, r, b string) api.Fact { return api.Fact{Kind: api.LinkF, A: a, R: r, B: b} }
func ranged(a, r string, lo, hi int) api.Fact {
	return api.Fact{Kind: api.RangeF, A: a, R: r, Lo: lo, Hi: hi}
}

func compare(f, g api.Fact) int {
	return cmp.Or(cmp.Compare(f.Kind, g.Kind), cmp.Compare(f.A, g.A), cmp.Compare(f.B, g.B), cmp.Compare(f.R, g.R), cmp.Compare(f.Lo, g.Lo), cmp.Compare(f.Hi, g.Hi))
}

// step returns everything that follows in one step, by the table of the chapter.
func step(p []api.Piece, facts []api.Fact) map[api.Fact]bool {
	out := map[api.Fact]bool{}
	has := func(f api.Fact) bool { return slices.Contains(facts, f) }
	for _, a := range append(normal.Atoms(p), "*", "!") {
		out[sub(a, a)], out[sub(a, "*")] = true, true
		for _, x := range p {
			if x.Kind == api.LoopP {
				out[link(a, x.R, a)] = true
			}
		}
	}
	for _, f := range facts {
		for _, g := range facts {
			if f.Kind == api.LinkF && g == sub(f.B, "!") {
				out[sub(f.A, "!")] = true
			}
			if f.Kind == api.RangeF && g.Kind == api.RangeF && f.A == g.A && f.R == g.R {
				if lo, hi := max(f.Lo, g.Lo), min(f.Hi, g.Hi); lo <= hi {
					out[ranged(f.A, f.R, lo, hi)] = true
				} else {
					out[sub(f.A, "!")] = true
				}
			}
		}
		for _, x := range p {
			switch {
			case f.Kind == api.SubF && x.Kind == api.SubP && f.B == x.A:
				out[sub(f.A, x.C)] = true
			case f.Kind == api.SubF && x.Kind == api.AndP && f.B == x.A && has(sub(f.A, x.B)):
				out[sub(f.A, x.C)] = true
			case f.Kind == api.SubF && x.Kind == api.SomeP && f.B == x.A:
				out[link(f.A, x.R, x.C)] = true
			case f.Kind == api.LinkF && x.Kind == api.RoleP && f.R == x.R:
				out[link(f.A, x.T, f.B)] = true
			case f.Kind == api.LinkF && x.Kind == api.ChainP && f.R == x.R:
				for _, g := range facts {
					if g.Kind == api.LinkF && g.A == f.B && g.R == x.S {
						out[link(f.A, x.T, g.B)] = true
					}
				}
			case f.Kind == api.LinkF && x.Kind == api.FillP && f.R == x.R && has(sub(f.B, x.A)):
				out[sub(f.A, x.C)] = true
			case f.Kind == api.SubF && x.Kind == api.InP && f.B == x.A:
				out[ranged(f.A, x.R, x.Lo, x.Hi)] = true
			case f.Kind == api.RangeF && x.Kind == api.OutP && f.R == x.R && x.Lo <= f.Lo && f.Hi <= x.Hi:
				out[sub(f.A, x.C)] = true
			}
		}
	}
	return out
}

// closure derives everything by repeating all steps.
func closure(p []api.Piece) (facts []api.Fact) {
	for {
		grown := false
		for f := range step(p, facts) {
			if !slices.Contains(facts, f) {
				facts, grown = append(facts, f), true
			}
		}
		if !grown {
			slices.SortFunc(facts, compare)
			return facts
		}
	}
}

func randomPieces(r *rand.Rand) (p []api.Piece) {
	atom := func() string { return []string{"A", "B", "C", "{a}", "*", "!"}[min(r.Intn(8), 5)%6] }
	role := func() string { return []string{"r", "s", "r.s"}[r.Intn(3)] }
	for range r.Intn(9) {
		lo := r.Intn(4)
		x := api.Piece{Kind: 1 + r.Intn(9), From: r.Intn(3) - 1}
		switch x.Kind {
		case api.SubP:
			x.A, x.C = atom(), atom()
		case api.AndP:
			x.A, x.B, x.C = atom(), atom(), atom()
		case api.SomeP, api.FillP:
			x.A, x.R, x.C = atom(), role(), atom()
		case api.RoleP:
			x.R, x.T = role(), role()
		case api.ChainP:
			x.R, x.S, x.T = role(), role(), role()
		case api.LoopP:
			x.R = role()
		case api.InP:
			x.A, x.R, x.Lo, x.Hi = atom(), "f", lo, lo+r.Intn(3)
		case api.OutP:
			x.R, x.Lo, x.Hi, x.C = "f", lo, lo+r.Intn(3), atom()
		}
		p = append(p, x)
	}
	return p
}

// P10.1, P10.2 and P10.4
func TestAllRandom(t *testing.T) {
	r := rand.New(rand.NewSource(1))
	for range 1500 {
		p := randomPieces(r)
		c, e := saturate.All(p, api.MaxBudget)
		want := closure(p)
		if e != api.OK || !slices.Equal(c.Facts, want) {
			t.Fatalf("%v:\n%v\n%v", p, c.Facts, want)
		}
		atoms := append(normal.Atoms(p), "*", "!")
		slices.Sort(atoms)
		if !slices.Equal(c.Atoms, slices.Compact(atoms)) || saturate.Check(c) != api.OK {
			t.Fatal("atoms", c.Atoms)
		}
		if l, e := saturate.Next(p, c); e != api.OK || len(l) != 0 {
			t.Fatal("Next of the closure", l)
		}
		if _, e := saturate.All(p, len(want)); e != api.OK {
			t.Fatal("an exact budget", e)
		}
		if c, e := saturate.All(p, len(want)-1); e != api.ErrBudget || c.Facts != nil || c.Atoms != nil {
			t.Fatal("a small budget", e)
		}
		var part []api.Fact
		for _, f := range want {
			if r.Intn(3) > 0 {
				part = append(part, f)
			}
		}
		q := randomPieces(r)
		l, e := saturate.Next(q, api.Closure{Atoms: c.Atoms, Facts: part})
		var next []api.Fact
		for f := range step(q, part) {
			if !slices.Contains(part, f) {
				next = append(next, f)
			}
		}
		slices.SortFunc(next, compare)
		if e != api.OK || !slices.Equal(l, next) {
			t.Fatalf("Next(%v, %v) = %v, want %v", q, part, l, next)
		}
		again := slices.Concat(p, p)
		r.Shuffle(len(again), func(i, k int) { again[i], again[k] = again[k], again[i] })
		for i := range again {
			again[i].From = 7
		}
		if d, _ := saturate.All(again, api.MaxBudget); !slices.Equal(d.Facts, c.Facts) {
			t.Fatal("the order matters", p)
		}
		more, _ := saturate.All(append(slices.Clone(p), q...), api.MaxBudget)
		for _, f := range c.Facts {
			if !saturate.Derives(more, f) {
				t.Fatal("lost", f)
			}
			if f.Kind == api.SubF {
				for _, b := range saturate.Above(c, f.B) {
					if !slices.Contains(saturate.Above(c, f.A), b) {
						t.Fatal("not transitive", f, b)
					}
				}
			}
		}
	}
}

func pieces(src string) []api.Piece {
	p, e := normal.Pieces(sample.Axioms(src))
	if e != api.OK {
		panic(e)
	}
	return p
}

// P10.1
func TestAll(t *testing.T) {
	c, e := saturate.All(nil, 3)
	if e != api.OK || !slices.Equal(c.Atoms, []string{"!", "*"}) || !slices.Equal(c.Facts, []api.Fact{sub("!", "!"), sub("!", "*"), sub("*", "*")}) {
		t.Error(c, e)
	}
	for src, want := range map[string][]api.Fact{
		"A sub B. ":                    {sub("A", "B")},
		"A sub B. B sub nothing.":      {sub("A", "!"), sub("A", "B"), sub("B", "!")},
		"domain r C. type a some r B.": {sub("{a}", "<some r B>"), sub("{a}", "C"), sub("<some r B>", "C"), link("{a}", "r", "B"), link("<some r B>", "r", "B")},
		"role r sub s. chain s s sub t. link a r b. link b r c.": {link("{a}", "r", "{b}"), link("{b}", "r", "{c}"), link("{a}", "s", "{b}"), link("{b}", "s", "{c}"), link("{a}", "t", "{c}")},
	} {
		p := pieces(src)
		c, e := saturate.All(p, api.MaxBudget)
		var rest []api.Fact
		for _, f := range c.Facts {
			if f.B != "*" && (f.Kind != api.SubF || f.A != f.B) {
				rest = append(rest, f)
			}
		}
		slices.SortFunc(want, compare)
		if e != api.OK || !slices.Equal(rest, want) {
			t.Errorf("%s: %v, %d", src, rest, e)
		}
	}
	for _, x := range []struct {
		p      []api.Piece
		budget int
		e      api.Errno
	}{{[]api.Piece{{}}, -1, api.ErrArg}, {nil, -1, api.ErrArg}, {nil, 1<<30 + 1, api.ErrArg}, {nil, 1 << 30, api.OK}, {nil, 2, api.ErrBudget}, {nil, 0, api.ErrBudget}, {slices.Repeat([]api.Piece{{Kind: 1, A: "A", C: "A"}}, 16385), -1, api.ErrLimit}} {
		if c, e := saturate.All(x.p, x.budget); e != x.e || e != api.OK && c.Facts != nil {
			t.Error(x.p, x.budget, e)
		}
	}
}

// large has n atoms and links between all of them.
func large(n int) (p []api.Piece) {
	for i := range n {
		a := "{a" + strconv.Itoa(i) + "}"
		p = append(p, api.Piece{Kind: api.SubP, A: a, C: "A"}, api.Piece{Kind: api.SomeP, A: "A", R: "r", C: a})
	}
	return p
}

// P10.1: 65536 facts and more.
func TestLimit(t *testing.T) {
	// n*n + n links, 3n + 2 of the individuals and A, and 3 more.
	p := large(253)
	c, e := saturate.All(p, api.MaxBudget)
	n := len(c.Facts)
	if e != api.OK || n != 253*253+253+3*253+2+3 {
		t.Fatal(n, e)
	}
	if _, e := saturate.All(large(256), api.MaxBudget); e != api.ErrLimit {
		t.Error(e)
	}
	if _, e := saturate.All(large(256), api.MaxFacts); e != api.ErrLimit {
		t.Error(e)
	}
	if _, e := saturate.All(large(256), api.MaxFacts-1); e != api.ErrBudget {
		t.Error(e)
	}
}

// P10.1: exactly 65536 facts.
func TestExactLimit(t *testing.T) {
	// An atom with nothing but itself and everything has two facts; "*" alone has one.
	p := large(253)
	c, _ := saturate.All(p, api.MaxBudget)
	left := api.MaxFacts - len(c.Facts)
	if left%2 == 1 {
		p = append(p, api.Piece{Kind: api.SubP, A: "X", C: "Y"}) // five facts
		left -= 5
	}
	for i := range left / 2 {
		p = append(p, api.Piece{Kind: api.SubP, A: "N" + strconv.Itoa(i), C: "*"})
	}
	c, e := saturate.All(p, api.MaxFacts)
	if e != api.OK || len(c.Facts) != api.MaxFacts || saturate.Check(c) != api.OK {
		t.Error(len(c.Facts), e)
	}
	if _, e := saturate.All(p, api.MaxFacts-1); e != api.ErrBudget {
		t.Error(e)
	}
	p = append(p, api.Piece{Kind: api.SubP, A: "X", C: "Z"})
	if _, e := saturate.All(p, api.MaxBudget); e != api.ErrLimit {
		t.Error(e)
	}
	c.Atoms = append(c.Atoms, "~")
	c.Facts = append(c.Facts, ranged("~", "f", 1, 2))
	if e := saturate.Check(c); e != api.ErrLimit {
		t.Error(e)
	}
	c.Facts = append(c.Facts, ranged("~", "f", 1, 2))
	if e := saturate.Check(c); e != api.ErrArg {
		t.Error(e)
	}
}

// P10.2
func TestNext(t *testing.T) {
	atoms := []string{"!", "*", "Q", "R"}
	c := api.Closure{Atoms: atoms, Facts: []api.Fact{sub("Q", "R")}}
	l, e := saturate.Next([]api.Piece{{Kind: api.SomeP, A: "R", R: "r", C: "Z"}}, c)
	want := []api.Fact{sub("!", "!"), sub("!", "*"), sub("*", "*"), sub("R", "*"), sub("R", "R"), sub("Z", "*"), sub("Z", "Z"), link("Q", "r", "Z")}
	if e != api.OK || !slices.Equal(l, want) {
		t.Error(l, e)
	}
	for _, x := range []struct {
		p []api.Piece
		c api.Closure
		e api.Errno
	}{{[]api.Piece{{}}, c, api.ErrArg}, {slices.Repeat([]api.Piece{{}}, 16385), api.Closure{}, api.ErrLimit}, {nil, api.Closure{}, api.ErrArg}} {
		if l, e := saturate.Next(x.p, x.c); e != x.e || l != nil {
			t.Error(e)
		}
	}
}

// P10.3
func TestDerives(t *testing.T) {
	c := api.Closure{Facts: []api.Fact{sub("Z", "!"), ranged("B", "f", 4, 6), sub("A", "C"), link("A", "r", "B"), {Kind: 77, A: "X"}, {Kind: 1, A: "Y", B: "!", R: "r"}, {Kind: 3, A: "V", B: "b", R: "f", Lo: 1, Hi: 9}, ranged("U", "f", 5, 3)}}
	for f, want := range map[api.Fact]bool{
		sub("A", "C"): true, sub("A", "B"): false, sub("C", "A"): false, link("A", "r", "B"): true, link("A", "s", "B"): false, {Kind: 77, A: "X"}: true, {Kind: 77, A: "Z", Lo: 5}: true, sub("Z", "Q"): true, {A: "Z"}: true, sub("Y", "Q"): false, {Kind: 1, A: "Y", B: "!", R: "r"}: true,
		ranged("B", "f", 4, 6): true, ranged("B", "f", 3, 6): true, ranged("B", "f", 4, 7): true, ranged("B", "f", 5, 6): false, ranged("B", "f", 4, 5): false, ranged("B", "g", 4, 6): false, ranged("C", "f", 4, 6): false, {Kind: 3, A: "B", B: "x", R: "f", Lo: 0, Hi: 9}: false,
		{Kind: 3, A: "V", B: "b", R: "f", Lo: 1, Hi: 9}: true, {Kind: 3, A: "V", B: "b", R: "f", Lo: 0, Hi: 9}: false, ranged("V", "f", 1, 9): false, ranged("U", "f", 5, 3): true, ranged("U", "f", 4, 3): true, ranged("U", "f", 5, 4): true, ranged("U", "f", 6, 3): false, {Kind: 1, A: "A", B: "C", Lo: 1}: false,
	} {
		if saturate.Derives(c, f) != want {
			t.Errorf("%v: %v", f, !want)
		}
	}
}

// P10.3
func TestAboveClash(t *testing.T) {
	c := api.Closure{Facts: []api.Fact{sub("A", "C"), sub("A", "B"), sub("A", "C"), {Kind: 1, A: "A", B: "D", Hi: 1}, {Kind: 2, A: "A", B: "E"}, sub("B", "F")}}
	if l := saturate.Above(c, "A"); strings.Join(l, " ") != "B C" {
		t.Error(l)
	}
	if l := saturate.Above(c, "Z"); len(l) != 0 {
		t.Error(l)
	}
	for k, x := range []struct {
		facts []api.Fact
		atom  string
		ok    bool
	}{{nil, "", false}, {[]api.Fact{sub("A", "!"), sub("!", "!"), sub("<*>", "!")}, "", false}, {[]api.Fact{sub("{b}", "!"), sub("{a}", "!")}, "{a}", true}, {[]api.Fact{sub("{b}", "!"), sub("*", "!")}, "*", true}, {[]api.Fact{{Kind: 1, A: "*", B: "!", R: "r"}, link("*", "", "!"), sub("*", "{a}")}, "", false}, {[]api.Fact{sub("{", "!")}, "{", true}} {
		if atom, ok := saturate.Clash(api.Closure{Facts: x.facts}); atom != x.atom || ok != x.ok {
			t.Error(k, atom, ok)
		}
	}
}

// P10.3
func TestCheck(t *testing.T) {
	atoms := []string{"!", "*", "A"}
	for k, x := range []struct {
		atoms []string
		facts []api.Fact
		e     api.Errno
	}{
		{atoms, nil, api.OK}, {atoms, []api.Fact{sub("A", "!"), link("*", "r", "A"), ranged("A", "f", -1<<40, 1<<40)}, api.OK}, {[]string{"!", "*"}, []api.Fact{sub("A", "!")}, api.ErrArg}, {[]string{"!", "A"}, nil, api.ErrArg}, {[]string{"*", "A"}, nil, api.ErrArg}, {[]string{"*", "!"}, nil, api.ErrArg}, {[]string{"!", "*", "*"}, nil, api.ErrArg}, {nil, nil, api.ErrArg},
		{atoms, []api.Fact{link("*", "r", "A"), sub("A", "!")}, api.ErrArg}, {atoms, []api.Fact{sub("A", "!"), sub("A", "!")}, api.ErrArg}, {atoms, []api.Fact{sub("A", "B")}, api.ErrArg}, {atoms, []api.Fact{link("A", "", "A")}, api.ErrArg}, {atoms, []api.Fact{link("A", "r", "B")}, api.ErrArg}, {atoms, []api.Fact{link("B", "r", "A")}, api.ErrArg}, {atoms, []api.Fact{{Kind: 2, A: "A", R: "r", B: "A", Lo: 1, Hi: 1}}, api.ErrArg}, {atoms, []api.Fact{{Kind: 1, A: "A", B: "A", R: "r"}}, api.ErrArg},
		{atoms, []api.Fact{ranged("B", "f", 1, 2)}, api.ErrArg}, {atoms, []api.Fact{ranged("A", "", 1, 2)}, api.ErrArg}, {atoms, []api.Fact{ranged("A", "f", 2, 1)}, api.ErrArg}, {atoms, []api.Fact{ranged("A", "f", -1<<40-1, 1)}, api.ErrArg}, {atoms, []api.Fact{ranged("A", "f", 1, 1<<40+1)}, api.ErrArg}, {atoms, []api.Fact{{Kind: 3, A: "A", B: "A", R: "f"}}, api.ErrArg}, {atoms, []api.Fact{{Kind: 4, A: "A", B: "A"}}, api.ErrArg}, {atoms, []api.Fact{{}}, api.ErrArg},
	} {
		if e := saturate.Check(api.Closure{Atoms: x.atoms, Facts: x.facts}); e != x.e {
			t.Error(k, e, fmt.Sprint(x.facts))
		}
	}
}

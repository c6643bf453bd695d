package checker_test

import (
	"bytes"
	"math"
	"math/rand"
	"reflect"
	"slices"
	"strings"
	"testing"

	"veilstone/api"
	"veilstone/checker"
	"veilstone/normal"
	"veilstone/proof"
	"veilstone/sample"
	"veilstone/saturate"
)

func sub(a, b string) api.Fact     { return api.Fact{Kind: api.SubF, A: a, B: b} }
func link(a, r, b string) api.Fact { return api.Fact{Kind: api.LinkF, A: a, R: r, B: b} }
func ranged(a, r string, lo, hi int) api.Fact {
	return api.Fact{Kind: api.RangeF, A: a, R: r, Lo: lo, Hi: hi}
}

var pieces = []api.Piece{
	{Kind: api.SubP, A: "A", C: "B"}, {Kind: api.AndP, A: "A", B: "B", C: "C", From: 1}, {Kind: api.SomeP, A: "A", R: "r", C: "D"}, {Kind: api.RoleP, R: "r", T: "s"}, {Kind: api.ChainP, R: "r", S: "s", T: "t"},
	{Kind: api.FillP, R: "r", A: "B", C: "E"}, {Kind: api.LoopP, R: "r"}, {Kind: api.InP, A: "A", R: "f", Lo: 1, Hi: 5}, {Kind: api.OutP, R: "f", Lo: 0, Hi: 9, C: "F"}, {Kind: api.SubP, A: "A", C: "B", From: -1},
}

var facts = []api.Fact{
	sub("Q", "A"), sub("Q", "B"), link("Q", "r", "Z"), link("Z", "s", "Y"), sub("Z", "B"), sub("Z", "!"), ranged("Q", "f", 1, 5), ranged("Q", "f", 4, 8), ranged("Q", "f", 7, 9), sub("Q", "A"), link("Q", "r", "Q"), ranged("Q", "f", 0, 10), ranged("Q", "g", 1, 5), link("r", "s", "q"),
}

var steps = []api.Step{
	{Rule: 1, Fact: sub("A", "A"), Piece: -1}, {Rule: 1, Fact: sub("*", "*"), Piece: -1}, {Rule: 2, Fact: sub("!", "*"), Piece: -1}, {Rule: 2, Fact: sub("F", "*"), Piece: -1},
	{Rule: 3, Fact: sub("Q", "B"), Piece: 0, From: []int{0}}, {Rule: 3, Fact: sub("Q", "B"), Piece: 9, From: []int{9}}, {Rule: 4, Fact: sub("Q", "C"), Piece: 1, From: []int{0, 1}}, {Rule: 5, Fact: link("Q", "r", "D"), Piece: 2, From: []int{0}}, {Rule: 6, Fact: link("Q", "s", "Z"), Piece: 3, From: []int{2}},
	{Rule: 7, Fact: link("Q", "t", "Y"), Piece: 4, From: []int{2, 3}}, {Rule: 8, Fact: sub("Q", "E"), Piece: 5, From: []int{2, 4}}, {Rule: 8, Fact: sub("Q", "E"), Piece: 5, From: []int{10, 1}}, {Rule: 9, Fact: sub("Q", "!"), Piece: -1, From: []int{2, 5}}, {Rule: 10, Fact: link("A", "r", "A"), Piece: 6},
	{Rule: 11, Fact: ranged("Q", "f", 1, 5), Piece: 7, From: []int{0}}, {Rule: 12, Fact: ranged("Q", "f", 4, 5), Piece: -1, From: []int{6, 7}}, {Rule: 12, Fact: ranged("Q", "f", 1, 5), Piece: -1, From: []int{6, 6}}, {Rule: 12, Fact: ranged("Q", "f", 4, 5), Piece: -1, From: []int{7, 6}}, {Rule: 13, Fact: sub("Q", "!"), Piece: -1, From: []int{6, 8}},
	{Rule: 14, Fact: sub("Q", "F"), Piece: 8, From: []int{6}}, {Rule: 15, Fact: link("Z", "r.s", "<x>"), Piece: -1, From: []int{5}}, {Rule: 15, Fact: ranged("Z", "f", 3, 3), Piece: -1, From: []int{5}}, {Rule: 16, Fact: ranged("Q", "f", 0, 9), Piece: -1, From: []int{6}}, {Rule: 16, Fact: ranged("Q", "f", 1, 5), Piece: -1, From: []int{6}},
}

// P12.1
func TestStep(t *testing.T) {
	for i, s := range steps {
		if e := checker.Step(pieces, facts, s); e != api.OK {
			t.Errorf("step %d: %d", i, e)
		}
	}
	wrong := func(i int, what string, s api.Step) {
		if e := checker.Step(pieces, facts, s); e != api.ErrProof {
			t.Errorf("step %d, %s: %d, %v", i, what, e, s)
		}
	}
	for i, s := range steps {
		for _, rule := range []int{-1, 0, 1, 2, 3, 4, 5, 6, 7, 8, 9, 10, 11, 12, 13, 14, 15, 16, 17, 1 << 40} {
			x := s
			x.Rule = rule
			twin := s.Fact == sub("*", "*") && rule <= 2 || s.Rule == 12 && rule == 16 || s.Rule == 16 && rule == 12 || s.Rule == 14 && rule == 16
			if rule != s.Rule && (!twin || rule < 1) {
				wrong(i, "another rule", x)
			}
		}
		for piece := -2; piece <= len(pieces); piece++ {
			x := s
			x.Piece = piece
			if piece != s.Piece && !(s.Rule == 3 && (piece == 0 || piece == 9)) {
				wrong(i, "another piece", x)
			}
		}
		for k := range s.From {
			for n := -1; n <= len(facts); n++ {
				x := s
				x.From = slices.Clone(s.From)
				x.From[k] = n
				if n < 0 || n >= len(facts) || facts[n] != facts[s.From[k]] {
					if s.Rule == 12 || s.Rule >= 15 || s.Rule == 13 || s.Rule == 14 {
						continue // other premises may do; see below
					}
					wrong(i, "another premise", x)
				}
			}
			x := s
			x.From = slices.Delete(slices.Clone(s.From), k, k+1)
			wrong(i, "a premise is missing", x)
			x.From = append(slices.Clone(s.From), s.From[k])
			wrong(i, "a premise too many", x)
		}
		for what, spoil := range map[string]func(f *api.Fact){
			"A": func(f *api.Fact) { f.A = "W" }, "B": func(f *api.Fact) { f.B = "W" }, "R": func(f *api.Fact) { f.R = "z" }, "Lo": func(f *api.Fact) { f.Lo = 2 }, "Hi": func(f *api.Fact) { f.Hi = 3 }, "Kind": func(f *api.Fact) { f.Kind = f.Kind%3 + 1 }, "no A": func(f *api.Fact) { f.A = "" }, "no atom": func(f *api.Fact) { f.A = "a b" },
		} {
			x := s
			spoil(&x.Fact)
			if s.Rule == 15 && (what == "R" && s.Fact.Kind != api.SubF || what == "B" && s.Fact.Kind == api.LinkF || what == "Lo" && s.Fact.Kind == api.RangeF || what == "Hi" && s.Fact.Kind == api.RangeF) {
				continue // any well-formed fact about the atom
			}
			wrong(i, what, x)
		}
	}
}

// P12.1: what the changes above leave out.
func TestStepPremises(t *testing.T) {
	for k, s := range []api.Step{
		{Rule: 9, Fact: sub("Q", "!"), Piece: -1, From: []int{5, 2}}, {Rule: 4, Fact: sub("Q", "C"), Piece: 1, From: []int{1, 0}}, {Rule: 7, Fact: link("Q", "t", "Y"), Piece: 4, From: []int{3, 2}}, {Rule: 1, Fact: sub("Q", "Q"), Piece: -1}, {Rule: 2, Fact: sub("Y", "*"), Piece: -1}, {Rule: 10, Fact: link("Q", "r", "Q"), Piece: 6},
		{Rule: 12, Fact: ranged("Q", "f", 4, 5), Piece: -1, From: []int{6, 11}}, {Rule: 12, Fact: ranged("Q", "f", 1, 5), Piece: -1, From: []int{6, 12}}, {Rule: 12, Fact: ranged("Q", "f", 7, 5), Piece: -1, From: []int{6, 8}}, {Rule: 13, Fact: sub("Q", "!"), Piece: -1, From: []int{6, 7}}, {Rule: 13, Fact: sub("Q", "!"), Piece: -1, From: []int{8, 12}}, {Rule: 13, Fact: sub("Q", "!"), Piece: -1, From: []int{6, 0}},
		{Rule: 14, Fact: sub("Q", "F"), Piece: 8, From: []int{11}}, {Rule: 14, Fact: sub("Q", "F"), Piece: 8, From: []int{12}}, {Rule: 14, Fact: sub("Q", "F"), Piece: 8, From: []int{0}}, {Rule: 15, Fact: sub("Z", "A"), Piece: -1, From: []int{4}}, {Rule: 15, Fact: sub("Q", "A"), Piece: -1, From: []int{5}}, {Rule: 15, Fact: sub("Z", ""), Piece: -1, From: []int{5}}, {Rule: 15, Fact: link("Z", "r", "and"), Piece: -1, From: []int{5}},
		{Rule: 15, Fact: ranged("Z", "f.g", 1, 2), Piece: -1, From: []int{5}}, {Rule: 15, Fact: ranged("Z", "f", 1, 1<<40+1), Piece: -1, From: []int{5}}, {Rule: 16, Fact: ranged("Q", "f", 2, 9), Piece: -1, From: []int{6}}, {Rule: 16, Fact: ranged("Q", "f", 0, 4), Piece: -1, From: []int{6}}, {Rule: 16, Fact: ranged("Q", "g", 0, 9), Piece: -1, From: []int{6}}, {Rule: 16, Fact: ranged("Z", "f", 0, 9), Piece: -1, From: []int{6}}, {},
	} {
		if e := checker.Step(pieces, facts, s); e != api.ErrProof {
			t.Errorf("step %d: %d, %v", k, e, s)
		}
	}
	// A premise that is not well-formed.
	for _, f := range []api.Fact{{Kind: 1, A: "Q", B: "A", Lo: 1}, {Kind: 1, A: "and", B: "A"}} {
		if e := checker.Step(pieces, []api.Fact{f}, api.Step{Rule: 3, Fact: sub(f.A, "B"), From: []int{0}}); e != api.ErrProof {
			t.Error(f, e)
		}
	}
	if e := checker.Step([]api.Piece{{}}, nil, steps[1]); e != api.ErrArg {
		t.Error(e)
	}
	if e := checker.Step(slices.Repeat(pieces[:1], 16385), nil, steps[1]); e != api.ErrLimit {
		t.Error(e)
	}
	if e := checker.Step(nil, nil, steps[1]); e != api.OK {
		t.Error(e)
	}
}

// P12.1 and P12.4
func TestCheck(t *testing.T) {
	axioms := sample.Axioms("A sub some r B. B sub C. some r C sub D. type a A. type a f in 1 to 5. f in 0 to 9 sub E. B disjoint C. reflexive s. chain r s sub t.")
	p, _ := normal.Pieces(axioms)
	c, _ := saturate.All(p, api.MaxBudget)
	more := append(slices.Clone(p), pieces...)
	for _, f := range c.Facts {
		x, _ := proof.Find(p, f, api.MaxBudget)
		if e := checker.Check(p, f, x); e != api.OK {
			t.Fatal(f, e)
		}
		if checker.Check(more, f, x) != api.OK {
			t.Fatal("more pieces", f)
		}
		for n := range x.Steps {
			part := api.Proof{Steps: x.Steps[:n+1]}
			if checker.Check(p, x.Steps[n].Fact, part) != api.OK || !saturate.Derives(c, x.Steps[n].Fact) {
				t.Fatal("a beginning", f)
			}
		}
		if len(x.Steps) > 1 && checker.Check(p, f, api.Proof{Steps: x.Steps[1:]}) != api.ErrProof {
			t.Fatal("without the first step", f)
		}
		if checker.Check(p, sub("A", "no"), x) != api.ErrProof {
			t.Fatal("another fact", f)
		}
	}
	top := api.Step{Rule: 1, Fact: sub("*", "*"), Piece: -1}
	many := api.Proof{Steps: slices.Repeat([]api.Step{top}, api.MaxSteps)}
	if e := checker.Check(p, sub("*", "*"), many); e != api.OK {
		t.Error(e)
	}
	many.Steps = append(many.Steps, api.Step{})
	if e := checker.Check(p, sub("*", "*"), many); e != api.ErrLimit {
		t.Error(e)
	}
	if e := checker.Check([]api.Piece{{}}, sub("*", "*"), many); e != api.ErrArg {
		t.Error(e)
	}
	if e := checker.Check(p, sub("*", "*"), api.Proof{}); e != api.ErrProof {
		t.Error(e)
	}
	// A step that uses itself, or a later one.
	loop := []api.Step{{Rule: 3, Fact: sub("B", "C"), Piece: 2, From: []int{0}}}
	if e := checker.Check(p, sub("B", "C"), api.Proof{Steps: loop}); e != api.ErrProof {
		t.Error(e)
	}
}

// P12.2
func TestSource(t *testing.T) {
	l := sample.Axioms("A sub some r B. domain r C. C sub A.")
	prove := func(goal string) (x []api.Proof) {
		p, _ := normal.Pieces(l)
		g, facts, _ := normal.Goal(sample.Axiom(goal))
		for _, f := range facts {
			y, e := proof.Find(append(p, g...), f, api.MaxBudget)
			if e != api.OK {
				t.Fatal(goal, e)
			}
			x = append(x, y)
		}
		return x
	}
	for _, goal := range []string{"A sub C", "A same C", "A and X sub some r everything", "domain r A"} {
		if e := checker.Source(l, sample.Axiom(goal), prove(goal)); e != api.OK {
			t.Error(goal, e)
		}
	}
	x := prove("A same C")
	big := sample.Axiom("A sub some r some r some r some r some r some r some r B and C and D and E and F and G and H and I")
	for k, y := range []struct {
		l []api.Axiom
		a string
		x []api.Proof
		e api.Errno
	}{
		{l, "A same C", x[:1], api.ErrProof}, {l, "A same C", append(slices.Clone(x), x[0]), api.ErrProof}, {l, "A same C", []api.Proof{x[1], x[0]}, api.ErrProof}, {l, "C same B", x, api.ErrProof}, {l[:1], "A same C", x, api.ErrProof}, {l, "A sub C", nil, api.ErrProof},
		{[]api.Axiom{{}}, "role r sub s", nil, api.ErrAxiom}, {l, "role r sub s", nil, api.ErrAxiom}, {slices.Repeat(l[:1], 1025), "role r sub s", nil, api.ErrLimit}, {slices.Repeat([]api.Axiom{big}, 1024), "A sub C", nil, api.ErrLimit}, {slices.Repeat([]api.Axiom{big}, 1023), "A sub C", nil, api.ErrProof}, {[]api.Axiom{{Kind: api.ReflexiveA}}, "A sub C", nil, api.ErrName},
	} {
		if e := checker.Source(y.l, sample.Axiom(y.a), y.x); e != y.e {
			t.Errorf("case %d: %d, want %d", k, e, y.e)
		}
	}
	if e := checker.Source(l, api.Axiom{Kind: api.LinkA}, nil); e != api.ErrName {
		t.Error(e)
	}
	if e := checker.Source(l, sample.Axiom("A sub C"), []api.Proof{{Steps: make([]api.Step, api.MaxSteps+1)}}); e != api.ErrLimit {
		t.Error(e)
	}
}

// P12.3
func TestEncode(t *testing.T) {
	s := api.Step{Rule: 3, Fact: api.Fact{Kind: 2, A: "A", B: "xy", R: "", Lo: -1, Hi: 258}, Piece: 255, From: []int{7, 65536}}
	want := []byte{0, 0, 0, 1, 3, 2, 0, 1, 'A', 0, 2, 'x', 'y', 0, 0, 255, 255, 255, 255, 255, 255, 255, 255, 0, 0, 0, 0, 0, 0, 1, 2, 0, 0, 1, 0, 2, 0, 0, 0, 7, 0, 1, 0, 0}
	b, e := checker.Encode(api.Proof{Steps: []api.Step{s}})
	if e != api.OK || !bytes.Equal(b, want) {
		t.Error(b, e)
	}
	x, e := checker.Decode(want)
	if e != api.OK || !reflect.DeepEqual(x.Steps, []api.Step{s}) {
		t.Error(x, e)
	}
	for n := range want {
		if x, e := checker.Decode(want[:n]); e != api.ErrProof || x.Steps != nil {
			t.Error(n, e)
		}
	}
	if _, e := checker.Decode(append(want, 0)); e != api.ErrProof {
		t.Error(e)
	}
	if b, e := checker.Encode(api.Proof{}); e != api.OK || !bytes.Equal(b, []byte{0, 0, 0, 0}) {
		t.Error(b, e)
	}
	if x, e := checker.Decode([]byte{0, 0, 0, 0}); e != api.OK || len(x.Steps) != 0 {
		t.Error(x, e)
	}
	// The index of a piece and of a premise have 31 bits.
	high := slices.Clone(want)
	high[31] = 128
	if _, e := checker.Decode(high); e != api.ErrProof {
		t.Error(e)
	}
	high = slices.Clone(want)
	high[36] = 128
	if _, e := checker.Decode(high); e != api.ErrProof {
		t.Error(e)
	}
	if _, e := checker.Decode([]byte{255, 255, 255, 255}); e != api.ErrProof {
		t.Error(e)
	}
}

// P12.3
func TestEncodeLimits(t *testing.T) {
	long := strings.Repeat("x", 65535)
	for k, x := range []struct {
		s api.Step
		e api.Errno
	}{
		{api.Step{}, api.OK}, {api.Step{Rule: 255, Fact: api.Fact{Kind: 255, A: long, B: long, R: long, Lo: math.MinInt, Hi: math.MaxInt}, Piece: 1<<31 - 2, From: slices.Repeat([]int{1<<31 - 1}, 255)}, api.OK},
		{api.Step{Rule: 256}, api.ErrProof}, {api.Step{Rule: -1}, api.ErrProof}, {api.Step{Fact: api.Fact{Kind: 256}}, api.ErrProof}, {api.Step{Fact: api.Fact{Kind: -1}}, api.ErrProof}, {api.Step{Fact: api.Fact{A: long + "x"}}, api.ErrProof}, {api.Step{Fact: api.Fact{B: long + "x"}}, api.ErrProof}, {api.Step{Fact: api.Fact{R: long + "x"}}, api.ErrProof},
		{api.Step{Piece: -2}, api.ErrProof}, {api.Step{Piece: 1<<31 - 1}, api.ErrProof}, {api.Step{From: make([]int, 256)}, api.ErrProof}, {api.Step{From: []int{-1}}, api.ErrProof}, {api.Step{From: []int{0, 1 << 31}}, api.ErrProof},
	} {
		y := api.Proof{Steps: []api.Step{{}, x.s}}
		b, e := checker.Encode(y)
		if e != x.e || e != api.OK && b != nil {
			t.Errorf("case %d: %d", k, e)
		}
		if z, e2 := checker.Decode(b); e == api.OK && (e2 != api.OK || !reflect.DeepEqual(y, z)) {
			t.Errorf("case %d: %d", k, e2)
		}
	}
	y := api.Proof{Steps: make([]api.Step, api.MaxSteps)}
	b, e := checker.Encode(y)
	if e != api.OK {
		t.Error(e)
	}
	if z, e := checker.Decode(b); e != api.OK || len(z.Steps) != api.MaxSteps {
		t.Error(e)
	}
	b = append(b, b[4:4+(len(b)-4)/api.MaxSteps]...)
	b[3]++
	if _, e := checker.Decode(b); e != api.ErrProof {
		t.Error(e)
	}
	if b, e := checker.Encode(api.Proof{Steps: append(y.Steps, api.Step{Rule: -1})}); e != api.ErrLimit || b != nil {
		t.Error(e)
	}
}

// P12.4: random bytes lead to a proof only if it has this encoding.
func TestDecodeRandom(t *testing.T) {
	r := rand.New(rand.NewSource(1))
	good, _ := checker.Encode(api.Proof{Steps: steps[:6]})
	for range 20000 {
		b := slices.Clone(good)
		for range 1 + r.Intn(3) {
			b[r.Intn(len(b))] = byte(r.Intn(256))
		}
		x, e := checker.Decode(b)
		if e != api.OK {
			continue
		}
		if c, e := checker.Encode(x); e != api.OK || !bytes.Equal(b, c) {
			t.Fatal(b, x)
		}
	}
}

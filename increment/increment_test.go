package increment_test

import (
	"math/rand"
	"slices"
	"strconv"
	"testing"

	"veilstone/api"
	"veilstone/increment"
	"veilstone/normal"
	"veilstone/sample"
	"veilstone/saturate"
)

func pieces(src string) []api.Piece {
	p, e := normal.Pieces(sample.Axioms(src))
	if e != api.OK {
		panic(e)
	}
	return p
}

func same(a, b api.Work) bool {
	return slices.Equal(a.Pieces, b.Pieces) && slices.Equal(a.Closure.Atoms, b.Closure.Atoms) && slices.Equal(a.Closure.Facts, b.Closure.Facts)
}

func isZero(w api.Work) bool {
	return w.Pieces == nil && w.Closure.Atoms == nil && w.Closure.Facts == nil
}

// minus returns the facts of a list that are not in another one.
func minus(a, b []api.Fact) (l []api.Fact) {
	for _, f := range a {
		if !slices.Contains(b, f) {
			l = append(l, f)
		}
	}
	return l
}

// P13.1
func TestStartCheck(t *testing.T) {
	p := pieces("A sub some r B. B sub C. some r C sub D.")
	w, e := increment.Start(p, api.MaxBudget)
	c, _ := saturate.All(p, api.MaxBudget)
	if e != api.OK || !same(w, api.Work{Pieces: p, Closure: c}) || increment.Check(w) != api.OK {
		t.Error(w, e)
	}
	for _, x := range []struct {
		p      []api.Piece
		budget int
		e      api.Errno
	}{{nil, 3, api.OK}, {nil, 2, api.ErrBudget}, {nil, -1, api.ErrArg}, {[]api.Piece{{}}, 9, api.ErrArg}, {slices.Repeat(p[:1], 16385), 9, api.ErrLimit}} {
		if w, e := increment.Start(x.p, x.budget); e != x.e || (e == api.OK) != (len(w.Closure.Facts) == 3) {
			t.Error(e, x.e)
		}
	}
	if e := increment.Check(api.Work{}); e != api.ErrArg {
		t.Error(e)
	}
	bad := w
	bad.Closure.Facts = w.Closure.Facts[1:]
	if e := increment.Check(bad); e != api.ErrArg {
		t.Error(e)
	}
	bad = w
	bad.Closure.Atoms = append(slices.Clone(w.Closure.Atoms), "~")
	if e := increment.Check(bad); e != api.ErrArg {
		t.Error(e)
	}
	if e := increment.Check(api.Work{Pieces: slices.Repeat(p[:1], 16385)}); e != api.ErrLimit {
		t.Error(e)
	}
	if e := increment.Check(api.Work{Pieces: many(200)}); e != api.ErrArg {
		t.Error(e)
	}
}

// many has far more than 65536 facts.
func many(n int) (p []api.Piece) {
	for i := range 2 * n {
		a := "{a" + strconv.Itoa(i) + "}"
		p = append(p, api.Piece{Kind: api.SubP, A: a, C: "A"}, api.Piece{Kind: api.SomeP, A: "A", R: "r", C: a})
	}
	return p
}

// P13.2
func TestAddRemove(t *testing.T) {
	w, _ := increment.Start(pieces("A sub B. B sub C. A sub D. D sub C."), api.MaxBudget)
	sub := func(a, b string) api.Fact { return api.Fact{Kind: api.SubF, A: a, B: b} }
	x, new, e := increment.Add(w, w.Pieces[:2], api.MaxBudget)
	if e != api.OK || len(new) != 0 || len(x.Pieces) != 6 || increment.Check(x) != api.OK {
		t.Error(new, e)
	}
	x, gone, e := increment.Remove(x, []int{1, 5}, api.MaxBudget)
	if e != api.OK || !slices.Equal(gone, []api.Fact{sub("B", "C")}) || increment.Check(x) != api.OK {
		t.Error(gone, e)
	}
	x, gone, e = increment.Remove(x, []int{2}, api.MaxBudget)
	if e != api.OK || !slices.Equal(gone, []api.Fact{sub("A", "C"), sub("C", "*"), sub("C", "C"), sub("D", "C")}) || increment.Check(x) != api.OK {
		t.Error(gone, e)
	}
	x, new, e = increment.Add(x, pieces("B sub C."), api.MaxBudget)
	if e != api.OK || !slices.Equal(new, []api.Fact{sub("A", "C"), sub("B", "C"), sub("C", "*"), sub("C", "C")}) || increment.Check(x) != api.OK {
		t.Error(new, e)
	}
	if y, new, e := increment.Add(x, nil, api.MaxBudget); e != api.OK || len(new) != 0 || !same(x, y) {
		t.Error(new, e)
	}
	if y, gone, e := increment.Remove(x, nil, api.MaxBudget); e != api.OK || len(gone) != 0 || !same(x, y) {
		t.Error(gone, e)
	}
	// A cycle that holds itself up.
	w, _ = increment.Start(pieces("A sub B. B sub C. C sub B. type a A."), api.MaxBudget)
	x, gone, e = increment.Remove(w, []int{0}, api.MaxBudget)
	if e != api.OK || !slices.Equal(gone, []api.Fact{sub("A", "B"), sub("A", "C"), sub("{a}", "B"), sub("{a}", "C")}) || increment.Check(x) != api.OK {
		t.Error(gone, e)
	}
}

// P13.2
func TestErrors(t *testing.T) {
	w, _ := increment.Start(pieces("A sub B. B sub C."), api.MaxBudget)
	n := len(w.Closure.Facts)
	one := pieces("X sub Y.")
	for k, x := range []struct {
		p      []api.Piece
		budget int
		e      api.Errno
	}{{[]api.Piece{{}}, -1, api.ErrArg}, {slices.Repeat([]api.Piece{{}}, 16385), -1, api.ErrLimit}, {one, -1, api.ErrArg}, {one, 1<<30 + 1, api.ErrArg}, {slices.Repeat(one, 16383), -1, api.ErrArg}, {slices.Repeat(one, 16383), 0, api.ErrLimit}, {slices.Repeat(one, 16382), n + 4, api.ErrBudget}, {slices.Repeat(one, 16382), n + 5, api.OK}, {nil, n - 1, api.ErrBudget}, {nil, n, api.OK}, {nil, 0, api.ErrBudget}, {many(150), 1 << 30, api.ErrLimit}, {many(150), 65535, api.ErrBudget}} {
		y, new, e := increment.Add(w, x.p, x.budget)
		if e != x.e || e != api.OK && (!isZero(y) || new != nil) {
			t.Errorf("case %d: %d, want %d", k, e, x.e)
		}
	}
	for k, x := range []struct {
		which  []int
		budget int
		e      api.Errno
	}{{[]int{1, 1}, -1, api.ErrArg}, {[]int{1, 1}, 9, api.ErrArg}, {[]int{1, 0}, 99, api.ErrArg}, {[]int{-1}, 99, api.ErrArg}, {[]int{2}, 99, api.ErrArg}, {nil, -1, api.ErrArg}, {nil, 1<<30 + 1, api.ErrArg}, {[]int{0}, 7, api.ErrBudget}, {[]int{0}, 8, api.OK}, {[]int{0, 1}, 2, api.ErrBudget}, {[]int{0, 1}, 3, api.OK}} {
		y, gone, e := increment.Remove(w, x.which, x.budget)
		if e != x.e || e != api.OK && (!isZero(y) || gone != nil) {
			t.Errorf("case %d: %d, want %d", k, e, x.e)
		}
	}
	// Works that are not valid.
	for _, w := range []api.Work{{}, {Pieces: []api.Piece{{}}}, {Closure: api.Closure{Facts: []api.Fact{{}, {Kind: 1 << 40, A: "x"}, {Kind: 3, A: "y", Lo: 1 << 62, Hi: -1 << 62}, {Kind: -1}}}}} {
		increment.Add(w, one, 99)
		increment.Remove(w, nil, 99)
		if len(w.Pieces) > 0 {
			increment.Remove(w, []int{0}, 99)
		}
	}
}

func randomPieces(r *rand.Rand, n int) (p []api.Piece) {
	atom := func() string { return []string{"A", "B", "C", "D", "{a}", "{b}", "*", "!"}[min(r.Intn(14), 7)%8] }
	atom2 := func() string { return []string{"A", "B", "C", "D", "{a}", "{b}", "*"}[r.Intn(7)] }
	role := func() string { return []string{"r", "s", "t"}[r.Intn(3)] }
	for range r.Intn(n) {
		lo := r.Intn(4)
		x := api.Piece{Kind: 1 + r.Intn(9)}
		switch x.Kind {
		case api.SubP:
			x.A, x.C = atom2(), atom2()
		case api.AndP:
			x.A, x.B, x.C = atom2(), atom2(), atom()
		case api.SomeP, api.FillP:
			x.A, x.R, x.C = atom2(), role(), atom2()
		case api.RoleP:
			x.R, x.T = role(), role()
		case api.ChainP:
			x.R, x.S, x.T = role(), role(), role()
		case api.LoopP:
			x.R = role()
		case api.InP:
			x.A, x.R, x.Lo, x.Hi = atom2(), "f", lo, lo+r.Intn(3)
		case api.OutP:
			x.R, x.Lo, x.Hi, x.C = "f", lo, lo+r.Intn(3), atom()
		}
		p = append(p, x)
	}
	return p
}

// P13.2 and P13.3
func TestSequences(t *testing.T) {
	r := rand.New(rand.NewSource(1))
	for range 400 {
		w, _ := increment.Start(randomPieces(r, 10), api.MaxBudget)
		for range 6 {
			p := randomPieces(r, 5)
			x, new, e := increment.Add(w, p, api.MaxBudget)
			if e != api.OK || increment.Check(x) != api.OK || !slices.Equal(new, minus(x.Closure.Facts, w.Closure.Facts)) || !slices.Equal(x.Pieces, slices.Concat(w.Pieces, p)) {
				t.Fatalf("Add(%v, %v): %d, %v", w.Pieces, p, e, new)
			}
			var last []int
			for i := range p {
				last = append(last, len(w.Pieces)+i)
			}
			y, gone, e := increment.Remove(x, last, api.MaxBudget)
			if e != api.OK || !same(w, y) || !slices.Equal(gone, new) {
				t.Fatalf("there and back: %v, %v, %v", w.Pieces, p, gone)
			}
			var which []int
			for i := range x.Pieces {
				if r.Intn(4) == 0 {
					which = append(which, i)
				}
			}
			w, gone, e = increment.Remove(x, which, api.MaxBudget)
			if e != api.OK || increment.Check(w) != api.OK || !slices.Equal(gone, minus(x.Closure.Facts, w.Closure.Facts)) {
				t.Fatalf("Remove(%v, %v): %d, %v", x.Pieces, which, e, gone)
			}
		}
	}
}

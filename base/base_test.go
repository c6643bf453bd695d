package base_test

import (
	"math/rand"
	"slices"
	"strconv"
	"testing"

	"veilstone/api"
	"veilstone/base"
	"veilstone/printer"
	"veilstone/sample"
	"veilstone/terms"
)

// text prints a base.
func text(b api.Base) (s string) {
	for _, a := range b.Axioms {
		x, e := printer.Axiom(a)
		if e != api.OK {
			x = "?"
		}
		s += x + ". "
	}
	return s
}

func raw(s string) api.Base { return api.Base{Axioms: sample.Axioms(s)} }

func many(n int) (l []api.Axiom) {
	for i := range n {
		l = append(l, sample.Axiom("type a"+strconv.Itoa(1000+i)+" A"))
	}
	return l
}

// P7.1
func TestCheck(t *testing.T) {
	untidy := api.Base{Axioms: []api.Axiom{sample.Axiom("A sub B"), sample.Axiom("A same B")}}
	untidy.Axioms[1].Left, untidy.Axioms[1].Right = untidy.Axioms[1].Right, untidy.Axioms[1].Left
	for k, x := range []struct {
		b api.Base
		e api.Errno
	}{
		{api.Base{}, api.OK}, {raw("A sub B. open type a A. role r sub s."), api.ErrOrder}, {raw("A sub B. role r sub s. open type a A."), api.OK}, {raw("A sub B. A sub B."), api.ErrOrder}, {raw("A sub B. open A sub B."), api.ErrOrder}, {raw("B sub B. A sub B."), api.ErrOrder},
		{untidy, api.ErrAxiom}, {api.Base{Axioms: []api.Axiom{sample.Axiom("B sub B"), sample.Axiom("A sub A"), {}}}, api.ErrAxiom}, {api.Base{Axioms: []api.Axiom{{Kind: api.ReflexiveA, Role: "and"}}}, api.ErrName},
		{raw("private reflexive r."), api.ErrSecret}, {raw("private role r sub s. chain s r s sub r."), api.ErrSecret}, {raw("chain s r s sub r."), api.ErrCircle}, {raw("chain s r s sub r. A sub B."), api.ErrOrder},
		{api.Base{Axioms: many(1024)}, api.OK}, {api.Base{Axioms: many(1025)}, api.ErrLimit}, {api.Base{Axioms: append([]api.Axiom{sample.Axiom("private reflexive r")}, many(1024)...)}, api.ErrLimit}, {api.Base{Axioms: append(many(1025), many(1)...)}, api.ErrOrder},
	} {
		if e := base.Check(x.b); e != x.e {
			t.Errorf("case %d: %d, want %d", k, e, x.e)
		}
	}
}

func expectNew(t *testing.T, l []api.Axiom, want string, e api.Errno) {
	t.Helper()
	if b, e2 := base.New(l); e2 != e || text(b) != want {
		t.Errorf("%s, %d, want %s", text(b), e2, want)
	}
}

// P7.1
func TestNew(t *testing.T) {
	expectNew(t, nil, "", api.OK)
	expectNew(t, sample.Axioms("type b A. B sub A. open B sub A. A sub B. B sub A."), "A sub B. open B sub A. type b A. ", api.OK)
	expectNew(t, sample.Axioms("open B sub A. B sub A."), "open B sub A. ", api.OK)
	expectNew(t, sample.Axioms("private reflexive r."), "", api.ErrSecret)
	expectNew(t, sample.Axioms("private reflexive r. reflexive r."), "reflexive r. ", api.OK)
	expectNew(t, sample.Axioms("chain s r s sub r. A sub B."), "", api.ErrCircle)
	expectNew(t, append(sample.Axioms("private reflexive r."), api.Axiom{Kind: api.ReflexiveA}, api.Axiom{}), "", api.ErrName)
	expectNew(t, many(1025), "", api.ErrLimit)
	untidy := sample.Axiom("B sub A")
	untidy.Left = api.Concept{Kind: api.AndC, Parts: []api.Concept{untidy.Left, untidy.Right}}
	expectNew(t, []api.Axiom{untidy}, "A and B sub A. ", api.OK)
	if b, e := base.New(append(many(1024), many(500)...)); e != api.OK || len(b.Axioms) != 1024 {
		t.Error(e)
	}
}

// P7.2
func TestSets(t *testing.T) {
	a, b := sample.Base("open A sub B. C sub D. open E sub F. G sub H. role r sub s."), sample.Base("open A sub B. open C sub D. E sub F. X sub Y. role r sub s.")
	for k, x := range []struct {
		f    func(a, b api.Base) (api.Base, api.Errno)
		want string
	}{
		{base.Union, "open A sub B. open C sub D. open E sub F. G sub H. X sub Y. role r sub s. "}, {base.Minus, "G sub H. "}, {base.Common, "open A sub B. C sub D. E sub F. role r sub s. "},
	} {
		if c, e := x.f(a, b); e != api.OK || text(c) != x.want {
			t.Errorf("%d: %s, %d", k, text(c), e)
		}
		if c, e := x.f(raw("A sub B. A sub B."), api.Base{Axioms: []api.Axiom{{}}}); e != api.ErrOrder || text(c) != "" {
			t.Errorf("%d: %s, %d", k, text(c), e)
		}
		if c, e := x.f(a, api.Base{Axioms: []api.Axiom{{}}}); e != api.ErrAxiom || text(c) != "" {
			t.Errorf("%d: %s, %d", k, text(c), e)
		}
	}
	if c, e := base.Union(sample.Base("chain r s sub t."), sample.Base("role t sub s.")); e != api.ErrCircle || text(c) != "" {
		t.Error(text(c), e)
	}
	if c, e := base.Union(api.Base{Axioms: many(1024)}, sample.Base("A sub B.")); e != api.ErrLimit || text(c) != "" {
		t.Error(e)
	}
}

// P7.3
func TestOpenKeepFind(t *testing.T) {
	b := sample.Base("open A sub B. C sub D. B sub A and C. role r sub s.")
	if x := base.Open(b); text(x) != "open A sub B. role r sub s. " {
		t.Error(text(x))
	}
	if x := base.Open(api.Base{Axioms: []api.Axiom{{Open: true}, {}, {Kind: 77, Open: true}}}); len(x.Axioms) != 2 || x.Axioms[1].Kind != 77 {
		t.Error(x)
	}
	for _, x := range []struct {
		which []int
		want  string
		e     api.Errno
	}{{nil, "", api.OK}, {[]int{0, 2, 3}, "open A sub B. role r sub s. B sub A and C. ", api.OK}, {[]int{0, 0}, "", api.ErrArg}, {[]int{1, 0}, "", api.ErrArg}, {[]int{-1}, "", api.ErrArg}, {[]int{4}, "", api.ErrArg}} {
		if y, e := base.Keep(b, x.which); e != x.e || text(y) != x.want {
			t.Error(x.which, text(y), e)
		}
	}
	if x, e := base.Keep(raw("A sub B. A sub B."), []int{-1}); e != api.ErrOrder || text(x) != "" {
		t.Error(e)
	}
	both := sample.Axiom("open B sub A and C")
	both.Right.Parts = []api.Concept{both.Right.Parts[1], both.Right.Parts[0], both.Right.Parts[0]}
	for _, x := range []struct {
		b  api.Base
		a  api.Axiom
		at int
		ok bool
	}{{b, both, 3, true}, {b, sample.Axiom("A sub B"), 0, true}, {b, sample.Axiom("A sub C"), 0, false}, {b, api.Axiom{}, 0, false}, {api.Base{}, both, 0, false}, {raw("X sub X. A sub B. A sub B."), sample.Axiom("open A sub B"), 1, true}, {api.Base{Axioms: []api.Axiom{{}}}, api.Axiom{}, 0, false}} {
		if at, ok := base.Find(x.b, x.a); at != x.at || ok != x.ok {
			t.Error(x.a, at, ok)
		}
	}
}

// P7.3
func TestSame(t *testing.T) {
	b := sample.Base("open A sub B. C sub D.")
	for other, want := range map[string]bool{"open A sub B. C sub D.": true, "A sub B. C sub D.": false, "open A sub B.": false, "": false, "open A sub B. C sub D. E sub F.": false, "open A sub B. C sub E.": false} {
		if base.Same(b, sample.Base(other)) != want || base.Same(sample.Base(other), b) != want {
			t.Error(other)
		}
	}
	x, y := api.Base{Axioms: []api.Axiom{{Roles: []string{}, Left: api.Concept{Parts: []api.Concept{}}}}}, api.Base{Axioms: []api.Axiom{{}}}
	if !base.Same(x, y) || !base.Same(api.Base{}, api.Base{Axioms: []api.Axiom{}}) || base.Same(raw("B sub A. A sub B."), raw("A sub B. B sub A.")) {
		t.Error("any bases")
	}
	y.Axioms[0].B = "b"
	if base.Same(x, y) {
		t.Error("fields that are not used")
	}
}

// P7.4
func TestConsequences(t *testing.T) {
	r := rand.New(rand.NewSource(1))
	pool := sample.Axioms("A sub B. B sub A. A same B. A disjoint B. type a A. link a r b. role r sub s. chain r s sub s. role s sub r. A sub B and C. domain r A. reflexive q.")
	pick := func() (api.Base, []api.Axiom) {
		for {
			var l []api.Axiom
			for range r.Intn(9) {
				a := pool[r.Intn(len(pool))]
				a.Open = a.Open || r.Intn(2) == 0
				l = append(l, a)
			}
			if b, e := base.New(l); e == api.OK {
				return b, l
			}
		}
	}
	get := func(b api.Base, e api.Errno) api.Base {
		if e != api.OK {
			return api.Base{Axioms: []api.Axiom{{Kind: int(e)}}}
		}
		if base.Check(b) != api.OK {
			t.Fatal("not valid:", text(b))
		}
		return b
	}
	for range 2000 {
		a, l := pick()
		r.Shuffle(len(l), func(i, k int) { l[i], l[k] = l[k], l[i] })
		if b, e := base.New(slices.Concat(l, l)); e != api.OK || !base.Same(a, b) || base.Check(base.Open(a)) != api.OK {
			t.Fatal("order", text(a), text(b))
		}
		b, _ := pick()
		c, _ := pick()
		minus, common := get(base.Minus(a, b)), get(base.Common(a, b))
		for _, x := range a.Axioms {
			_, in := base.Find(minus, x)
			_, out := base.Find(common, x)
			_, has := base.Find(b, x)
			if in == out || has != out {
				t.Fatal(text(a), text(b), text(minus), text(common))
			}
		}
		ab := get(base.Union(a, b))
		if !base.Same(ab, get(base.Union(b, a))) || !base.Same(get(base.Union(a, a)), a) {
			t.Fatal("union", text(a), text(b))
		}
		alike := func(x, y api.Axiom) bool { return terms.CompareAxiom(x, y) == 0 }
		if d := get(base.Union(minus, b)); !slices.EqualFunc(d.Axioms, ab.Axioms, alike) {
			t.Fatal("union of the difference", text(d))
		}
		bc := get(base.Union(b, c))
		if x, e := base.Union(ab, c); e == api.OK {
			if y, e := base.Union(a, bc); e == api.OK && !base.Same(x, y) {
				t.Fatal("associative")
			}
		}
	}
}

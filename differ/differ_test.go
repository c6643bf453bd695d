package differ_test

import (
	"math/rand"
	"slices"
	"strconv"
	"strings"
	"testing"

	"veilstone/api"
	"veilstone/base"
	"veilstone/differ"
	"veilstone/entail"
	"veilstone/printer"
	"veilstone/sample"
	"veilstone/terms"
)

func show(l []api.Axiom) string {
	var s []string
	for _, a := range l {
		x, _ := printer.Axiom(a)
		s = append(s, x)
	}
	return strings.Join(s, "; ")
}

func names(concepts, roles, individuals string) api.Names {
	return api.Names{Concepts: strings.Fields(concepts), Roles: strings.Fields(roles), Individuals: strings.Fields(individuals)}
}

// P30.1
func TestConclusions(t *testing.T) {
	for _, x := range []struct {
		base string
		n    api.Names
		want string
	}{
		{"", names("", "", ""), ""}, {"", names("A", "", ""), ""}, {"everything sub nothing.", names("A", "", ""), "everything sub nothing; everything sub A; A sub nothing"}, {"A sub B. type a A.", names("A B", "", "a"), "A sub B; type a A; type a B"}, {"role r sub s. link a r b.", names("", "r s", "a b"), "private role r sub s; link a r b; link a s b"}, {"A sub B. B sub C.", names("A C", "", ""), "A sub C"},
		{"everything sub A. reflexive r.", names("A N", "r", "x"), "everything sub A; N sub A; type x A; link x r x"}, {"type a A. A sub nothing.", names("A B", "r", "a b"), "A sub nothing; A sub B; type a A; type a B; link a r a; link a r b"}, {"type a A.", api.Names{Concepts: []string{"A"}, Features: []string{"f"}, Individuals: []string{"_1_x", "a"}}, "type a A"},
	} {
		if l, e := differ.Conclusions(sample.Base(x.base), x.n); e != api.OK || show(l) != x.want {
			t.Errorf("%s: %s, %d, want %s", x.base, show(l), e, x.want)
		}
	}
}

// many returns names with a letter and a number, in order.
func many(letter string, n int) (l []string) {
	for i := range n {
		l = append(l, letter+strconv.Itoa(100000+i))
	}
	return l
}

func big() api.Base {
	var l []api.Axiom
	for i := range 300 {
		l = append(l, sample.Axiom("type a"+strconv.Itoa(i)+" A"), sample.Axiom("A sub some r {a"+strconv.Itoa(i)+"}"))
	}
	l = append(l, sample.Axiom("role r sub s"))
	b, _ := base.New(l)
	return b
}

// P30.1 and P30.2
func TestErrors(t *testing.T) {
	bad := api.Base{Axioms: sample.Axioms("B sub A. A sub B.")}
	for k, x := range []struct {
		b api.Base
		n api.Names
		e api.Errno
	}{
		{bad, names("B A", "", ""), api.ErrOrder}, {api.Base{}, names("B A", "", ""), api.ErrArg}, {api.Base{}, names("A A", "", ""), api.ErrArg}, {api.Base{}, names("_A", "", ""), api.ErrArg}, {api.Base{}, names("", "_r", ""), api.ErrArg}, {api.Base{}, names("", "3", ""), api.ErrArg}, {api.Base{}, api.Names{Features: []string{"_f"}}, api.ErrArg}, {api.Base{}, api.Names{Features: []string{"g", "f"}}, api.ErrArg}, {api.Base{}, names("", "", "b a"), api.ErrArg}, {api.Base{}, names("", "", "_"), api.ErrArg},
		{api.Base{}, api.Names{Concepts: many("A", 255)}, api.OK}, {api.Base{}, api.Names{Concepts: many("A", 256)}, api.ErrLimit}, {api.Base{}, api.Names{Roles: many("r", 255)}, api.OK}, {api.Base{}, api.Names{Roles: many("r", 256)}, api.ErrLimit}, {api.Base{}, api.Names{Roles: many("r", 1), Individuals: many("i", 256)}, api.ErrLimit}, {api.Base{}, api.Names{Individuals: many("i", 100000)}, api.OK}, {api.Base{}, api.Names{Concepts: many("A", 1), Individuals: many("i", 65533)}, api.ErrLimit}, {big(), names("A", "", ""), api.ErrLimit}, {big(), names("", "r s", ""), api.ErrLimit},
	} {
		if l, e := differ.Conclusions(x.b, x.n); e != x.e || l != nil {
			t.Error(k, e)
		}
		if l, m, e := differ.Diff(x.b, api.Base{}, x.n); x.e != api.OK && (e != x.e || l != nil || m != nil) {
			t.Error(k, e)
		}
		if l, m, e := differ.Diff(api.Base{}, x.b, x.n); k > 0 && x.e != api.OK && (e != x.e || l != nil || m != nil) {
			t.Error(k, e)
		}
	}
	for _, x := range [][2]api.Base{{bad, {Axioms: []api.Axiom{{}}}}, {{}, bad}} {
		if n, e := differ.Whole(x[0], x[1]); e != api.ErrOrder || n.Concepts != nil {
			t.Error(e)
		}
	}
}

// P30.2
func TestDiff(t *testing.T) {
	a, b := sample.Base("A sub B. B sub C. type a A."), sample.Base("A sub C. type a A. role r sub s.")
	n, e := differ.Whole(a, b)
	if e != api.OK || strings.Join(n.Concepts, " ") != "A B C" || strings.Join(n.Roles, " ") != "r s" || strings.Join(n.Individuals, " ") != "a" {
		t.Error(n, e)
	}
	x, y, e := differ.Diff(a, b, n)
	got := func(l []api.Change) (s string) {
		for _, c := range l {
			s += show([]api.Axiom{c.Axiom}) + " <- " + show(c.Witness) + " | "
		}
		return s
	}
	if e != api.OK || got(x) != "A sub B <- A sub B | B sub C <- B sub C | type a B <- A sub B; type a A | " || got(y) != "private role r sub s <- role r sub s | " {
		t.Error(got(x), got(y), e)
	}
	if x, y, e := differ.Diff(sample.Base("A sub B."), api.Base{}, names("A B", "", "")); e != api.OK || got(x) != "A sub B <- A sub B | " || len(y) != 0 {
		t.Error(got(x), e)
	}
	// More than 256 explanations of a conclusion.
	var l []api.Axiom
	for i := range 257 {
		l = append(l, sample.Axiom("A sub B and C"+strconv.Itoa(i)))
	}
	c, _ := base.New(l)
	if x, y, e := differ.Diff(c, api.Base{}, names("A B", "", "")); e != api.ErrLimit || x != nil || y != nil {
		t.Error(e)
	}
}

// P30.1 to P30.3
func TestConsequences(t *testing.T) {
	r := rand.New(rand.NewSource(1))
	pool := sample.Axioms("A sub B. B sub C. A sub some r B. some r C sub A. A disjoint C. type a A. type b C. link a r b. role r sub s. role s sub q. chain r r sub s. reflexive q. everything sub B. C sub nothing. domain s C. B same C. type b f in 1 to 2. f in 0 to 3 sub A.")
	n := names("A B C N", "q r s", "a b c")
	random := func() api.Base {
		var l []api.Axiom
		for _, a := range pool {
			if r.Intn(4) == 0 {
				l = append(l, a)
			}
		}
		b, e := base.New(l)
		if e != api.OK {
			return api.Base{}
		}
		return b
	}
	for range 60 {
		a, b := random(), random()
		ofA, e := differ.Conclusions(a, n)
		if e != api.OK || !slices.IsSortedFunc(ofA, terms.CompareAxiom) {
			t.Fatal(a, e)
		}
		count := 0
		each(n, func(x api.Axiom) {
			ok, _ := entail.Entails(a, x)
			if ok != slices.ContainsFunc(ofA, func(y api.Axiom) bool { return terms.CompareAxiom(x, y) == 0 }) {
				t.Fatal(a, x, ok)
			}
			if ok {
				count++
			}
		})
		if count != len(ofA) {
			t.Fatal("other conclusions", ofA)
		}
		x, y, e := differ.Diff(a, b, n)
		y2, x2, e2 := differ.Diff(b, a, n)
		if e != api.OK || e2 != api.OK || len(x) != len(x2) || len(y) != len(y2) {
			t.Fatal(a, b, e, e2)
		}
		for _, c := range x {
			w, _ := base.New(c.Witness)
			ok, _ := entail.Entails(w, c.Axiom)
			in, _ := entail.Entails(b, c.Axiom)
			rest, _ := base.Minus(w, b)
			out, _ := base.Minus(w, a)
			if !ok || in || len(rest.Axioms) == 0 || len(out.Axioms) > 0 {
				t.Fatal(a, b, c)
			}
			for i := range w.Axioms {
				less := api.Base{Axioms: slices.Delete(slices.Clone(w.Axioms), i, i+1)}
				if ok, _ := entail.Entails(less, c.Axiom); ok {
					t.Fatal("not the smallest", c)
				}
			}
		}
		if x, y, e := differ.Diff(a, a, n); e != api.OK || len(x)+len(y) != 0 {
			t.Fatal(x, y, e)
		}
	}
}

// each calls a function with each basic axiom.
func each(n api.Names, f func(api.Axiom)) {
	for _, c := range append([]string{"everything"}, n.Concepts...) {
		for _, d := range append([]string{"nothing"}, n.Concepts...) {
			if c != d {
				f(sample.Axiom(c + " sub " + d))
			}
		}
	}
	for _, r := range n.Roles {
		for _, s := range n.Roles {
			if r != s {
				f(sample.Axiom("private role " + r + " sub " + s))
			}
		}
	}
	for _, i := range n.Individuals {
		for _, c := range n.Concepts {
			f(sample.Axiom("type " + i + " " + c))
		}
		for _, k := range n.Individuals {
			for _, r := range n.Roles {
				f(sample.Axiom("link " + i + " " + r + " " + k))
			}
		}
	}
}

package tolerate_test

import (
	"math/rand"
	"slices"
	"strconv"
	"testing"

	"veilstone/api"
	"veilstone/base"
	"veilstone/entail"
	"veilstone/sample"
	"veilstone/terms"
	"veilstone/tolerate"
)

const first = "open A disjoint B. type a A. type a B. type a C."

// P20.1
func TestGuiltyEffective(t *testing.T) {
	for src, want := range map[string]string{
		"": "", first: "open A disjoint B. type a C.", "open A disjoint B. type a A. type a B. type c A.": "open A disjoint B. type c A.", "A disjoint B. type a A. type a B.": "", "open A disjoint B. open type a A. type a B. type b B.": "open A disjoint B. open type a A. type b B.", "A sub nothing. B sub C.": "A sub nothing. B sub C.",
		"everything sub nothing. type a A.": "type a A.", "open A sub nothing. type a B. B sub A. C sub A. B sub D.": "open A sub nothing. C sub A. B sub D.", "open domain r nothing. role r sub s. link a r b. link a s b.": "open domain r nothing. role r sub s. link a s b.",
	} {
		b := sample.Base(src)
		x, e := tolerate.Effective(b)
		if e != api.OK || !base.Same(x, sample.Base(want)) {
			t.Errorf("%s: %v, %d", src, x, e)
		}
		guilty, e := tolerate.Guilty(b)
		if e != api.OK || len(guilty) != len(b.Axioms)-len(x.Axioms) || !slices.IsSorted(guilty) {
			t.Errorf("%s: %v, %d", src, guilty, e)
		}
		for _, i := range guilty {
			if _, ok := base.Find(x, b.Axioms[i]); ok {
				t.Errorf("%s: %v", src, guilty)
			}
		}
	}
}

// P20.2
func TestRepairs(t *testing.T) {
	b := sample.Base(first)
	l, e := tolerate.Repairs(b, 256)
	if e != api.OK || len(l) != 2 || !base.Same(l[0], sample.Base("open A disjoint B. type a B. type a C.")) || !base.Same(l[1], sample.Base("open A disjoint B. type a A. type a C.")) {
		t.Error(l, e)
	}
	if l, e := tolerate.Repairs(b, 1); e != api.OK || len(l) != 1 || !base.Same(l[0], sample.Base("open A disjoint B. type a B. type a C.")) {
		t.Error(l, e)
	}
	if l, e := tolerate.Repairs(api.Base{}, 1); e != api.OK || len(l) != 1 || len(l[0].Axioms) != 0 {
		t.Error(l, e)
	}
	if l, e := tolerate.Repairs(api.Base{}, 0); e != api.OK || len(l) != 0 {
		t.Error(l, e)
	}
}

// P20.3
func TestHolds(t *testing.T) {
	b := sample.Base(first)
	for a, want := range map[string]bool{"type a C": true, "type a A": false, "A disjoint B": true, "type a everything": true, "type b C": false, "open type a C": true, "role r sub r": true} {
		if ok, e := tolerate.Holds(b, sample.Axiom(a)); e != api.OK || ok != want {
			t.Error(a, ok, e)
		}
	}
}

func big(open bool) []api.Axiom {
	var l []api.Axiom
	for i := range 300 {
		l = append(l, sample.Axiom("type a"+strconv.Itoa(i)+" A"), sample.Axiom("A sub some r {a"+strconv.Itoa(i)+"}"))
	}
	for i := range l {
		l[i].Open = open
	}
	return l
}

// P20.1, P20.2 and P20.3
func TestErrors(t *testing.T) {
	bad := api.Base{Axioms: sample.Axioms("B sub A. A sub B.")}
	open := sample.Base("open everything sub nothing.")
	large, _ := base.New(append(big(false), sample.Axioms("open type q X. open X sub nothing.")...))
	private, _ := base.New(big(false))
	all, _ := base.New(big(true))
	wrong := api.Axiom{Kind: api.ReflexiveA}
	var many []api.Axiom
	for i := range 257 {
		many = append(many, sample.Axiom("type a A and X"+strconv.Itoa(i)))
	}
	clashes, _ := base.New(append(many, sample.Axiom("open A sub nothing")))
	for k, x := range []struct {
		b    api.Base
		most int
		a    api.Axiom
		e    [3]api.Errno
	}{
		{bad, -1, wrong, [3]api.Errno{api.ErrOrder, api.ErrOrder, api.ErrOrder}}, {open, -1, wrong, [3]api.Errno{api.ErrOpen, api.ErrArg, api.ErrName}}, {open, 257, sample.Axiom("A sub A"), [3]api.Errno{api.ErrOpen, api.ErrArg, api.ErrOpen}}, {open, 5, sample.Axiom("A sub A"), [3]api.Errno{api.ErrOpen, api.ErrOpen, api.ErrOpen}}, {large, 5, sample.Axiom("A sub A"), [3]api.Errno{api.ErrOpen, api.ErrOpen, api.ErrOpen}},
		{private, 5, sample.Axiom("A sub A"), [3]api.Errno{api.ErrLimit, api.ErrLimit, api.ErrLimit}}, {all, 5, sample.Axiom("A sub A"), [3]api.Errno{api.ErrLimit, api.ErrLimit, api.ErrLimit}}, {clashes, 5, sample.Axiom("A sub A"), [3]api.Errno{api.ErrLimit, api.ErrLimit, api.ErrLimit}},
	} {
		if l, e := tolerate.Guilty(x.b); e != x.e[0] || l != nil {
			t.Error(k, e)
		}
		if y, e := tolerate.Effective(x.b); e != x.e[0] || y.Axioms != nil {
			t.Error(k, e)
		}
		if l, e := tolerate.Repairs(x.b, x.most); e != x.e[1] || l != nil {
			t.Error(k, e)
		}
		if ok, e := tolerate.Holds(x.b, x.a); e != x.e[2] || ok {
			t.Error(k, e)
		}
	}
	// 256 clashes.
	fewer, _ := base.New(append(many[1:], sample.Axiom("open A sub nothing")))
	if l, e := tolerate.Guilty(fewer); e != api.OK || len(l) != 256 {
		t.Error(len(l), e)
	}
}

// P20.1 to P20.4: by examining all parts of a base.
func TestRandom(t *testing.T) {
	r := rand.New(rand.NewSource(1))
	pool := sample.Axioms("A sub B. B sub C. A disjoint B. A sub nothing. type a A. type a B. type b C. link a r b. domain r nothing. some r C sub A. B disjoint C. everything sub C. role s sub r. link b s a. type b A. type c C.")
	for range 250 {
		var l []api.Axiom
		for range 1 + r.Intn(8) {
			a := pool[r.Intn(len(pool))]
			a.Open = a.Open || r.Intn(4) == 0
			l = append(l, a)
		}
		b, _ := base.New(l)
		open, _ := entail.Consistent(base.Open(b))
		x, e := tolerate.Effective(b)
		if (e == api.ErrOpen) == open || e != api.OK && e != api.ErrOpen {
			t.Fatal(b, e)
		}
		if e != api.OK {
			continue
		}
		// All largest consistent parts, by the number and the indices of what they leave out.
		var largest [][]int
		for n := range len(b.Axioms) + 1 {
			for bits := range 1 << len(b.Axioms) {
				var out, rest []int
				for i, a := range b.Axioms {
					if bits>>i&1 == 1 {
						out = append(out, i)
						if a.Open {
							out = nil
							break
						}
					} else {
						rest = append(rest, i)
					}
				}
				if len(out) != n || n > 0 && out == nil || n == 0 && bits > 0 {
					continue
				}
				part, _ := base.Keep(b, rest)
				ok, _ := entail.Consistent(part)
				within := slices.ContainsFunc(largest, func(s []int) bool {
					return !slices.ContainsFunc(s, func(i int) bool { return !slices.Contains(out, i) })
				})
				if ok && !within {
					largest = append(largest, out)
				}
			}
		}
		slices.SortFunc(largest, func(s, u []int) int {
			if len(s) != len(u) {
				return len(s) - len(u)
			}
			return slices.Compare(s, u)
		})
		repairs, e := tolerate.Repairs(b, 256)
		if e != api.OK || len(repairs) != len(largest) {
			t.Fatal(b, repairs, largest)
		}
		common := b
		for i, y := range repairs {
			rest, _ := base.Minus(b, y)
			if len(rest.Axioms) != len(largest[i]) {
				t.Fatal(b, repairs, largest)
			}
			for k, a := range rest.Axioms {
				if terms.CompareAxiom(a, b.Axioms[largest[i][k]]) != 0 {
					t.Fatal(b, repairs, largest)
				}
			}
			common, _ = base.Common(common, y)
		}
		consistent, _ := entail.Consistent(b)
		twice, _ := tolerate.Effective(x)
		if ok, _ := entail.Consistent(x); !ok || !base.Same(common, x) || base.Same(x, b) != consistent || !base.Same(twice, x) || !base.Same(base.Open(x), base.Open(b)) {
			t.Fatal(b, x, common)
		}
		for _, a := range pool {
			ok, e := tolerate.Holds(b, a)
			want, _ := entail.Entails(x, a)
			if e != api.OK || ok != want {
				t.Fatal(b, a, ok)
			}
			for _, y := range repairs {
				if all, _ := entail.Entails(y, a); ok && !all {
					t.Fatal(b, a, y)
				}
			}
		}
	}
}

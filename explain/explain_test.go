package explain_test

import (
	"cmp"
	"fmt"
	"math/rand"
	"reflect"
	"slices"
	"strconv"
	"testing"

	"veilstone/api"
	"veilstone/base"
	"veilstone/entail"
	"veilstone/explain"
	"veilstone/hitting"
	"veilstone/sample"
	"veilstone/terms"
)

func equal(a, b [][]int) bool { return slices.EqualFunc(a, b, slices.Equal[[]int]) }

func compare(a, b []int) int { return cmp.Or(cmp.Compare(len(a), len(b)), slices.Compare(a, b)) }

var two = sample.Base("A sub B. A sub C. B sub C.") // 0; 1; 2

// P17.1
func TestOne(t *testing.T) {
	a := sample.Axiom("A sub C")
	for _, x := range []struct {
		out, want []int
		ok        bool
	}{{nil, []int{1}, true}, {[]int{1}, []int{0, 2}, true}, {[]int{0}, []int{1}, true}, {[]int{2}, []int{1}, true}, {[]int{0, 1}, nil, false}, {[]int{0, 1, 2}, nil, false}} {
		if set, ok, e := explain.One(two, a, x.out); e != api.OK || ok != x.ok || !slices.Equal(set, x.want) {
			t.Error(x, set, ok, e)
		}
	}
	b := sample.Base("A sub C. A sub some r B. domain r C.")
	if set, ok, e := explain.One(b, a, nil); e != api.OK || !ok || !slices.Equal(set, []int{0}) {
		t.Error(set, ok, e)
	}
	if set, ok, e := explain.One(b, a, []int{0}); e != api.OK || !ok || !slices.Equal(set, []int{1, 2}) {
		t.Error(set, ok, e)
	}
	if set, ok, e := explain.One(b, sample.Axiom("A sub A"), nil); e != api.OK || !ok || len(set) != 0 {
		t.Error(set, ok, e)
	}
}

// greedy is One by its definition.
func greedy(b api.Base, a api.Axiom, out []int) (set []int, ok bool, e api.Errno) {
	for i := range b.Axioms {
		if !slices.Contains(out, i) {
			set = append(set, i)
		}
	}
	if !explains(b, a, set) {
		return nil, false, api.OK
	}
	for _, i := range slices.Backward(slices.Clone(set)) {
		less := slices.DeleteFunc(slices.Clone(set), func(n int) bool { return n == i })
		if explains(b, a, less) {
			set = less
		}
	}
	return set, true, api.OK
}

func explains(b api.Base, a api.Axiom, set []int) bool {
	x, _ := base.Keep(b, set)
	ok, e := entail.Entails(x, a)
	return ok && e == api.OK
}

// P17.1, P17.2 and P17.3
func TestErrors(t *testing.T) {
	bad := api.Base{Axioms: sample.Axioms("B sub A. A sub B.")}
	a, wrong := sample.Axiom("A sub C"), api.Axiom{Kind: api.ReflexiveA}
	for k, x := range []struct {
		b      api.Base
		a      api.Axiom
		out    []int
		budget int
		s      api.Search
		e      api.Errno
	}{
		{bad, wrong, []int{9}, -1, api.Search{}, api.ErrOrder}, {two, wrong, []int{9}, -1, api.Search{}, api.ErrName}, {two, a, []int{1, 0}, -1, hitting.Begin(), api.ErrArg}, {two, a, []int{3}, 1<<30 + 1, hitting.Begin(), api.ErrArg}, {two, a, []int{-1}, -1, api.Search{}, api.ErrArg}, {two, a, []int{1, 1}, -1, api.Search{Done: true, Found: [][]int{{3}}}, api.ErrArg},
	} {
		if set, ok, e := explain.One(x.b, x.a, x.out); e != x.e || set != nil || ok {
			t.Error(k, e)
		}
		if sets, e := explain.All(x.b, x.a, x.budget); e != x.e || sets != nil {
			t.Error(k, e)
		}
		if s, e := explain.Continue(x.b, x.a, x.s, x.budget); e != x.e || !reflect.DeepEqual(s, api.Search{}) {
			t.Error(k, e)
		}
		if l, e := explain.First(x.b, x.a); k < 2 && (e != x.e || l != nil) {
			t.Error(k, e)
		}
	}
	for k, s := range []api.Search{{Open: [][]int{{3}}}, {Open: [][]int{nil}, Found: [][]int{{3}}}, {}} {
		if x, e := explain.Continue(two, a, s, 1); e != api.ErrArg || x.Open != nil {
			t.Error(k, e)
		}
	}
	// A search with a set that is no explanation.
	if x, e := explain.Continue(two, a, api.Search{Open: [][]int{nil}, Found: [][]int{{0, 1, 2}}}, 1); e != api.ErrArg || x.Open != nil {
		t.Error(e)
	}
	if sets, e := explain.All(two, a, 0); e != api.ErrBudget || sets != nil {
		t.Error(e)
	}
	if l, e := explain.First(api.Base{}, sample.Axiom("A sub B")); e != api.ErrUnproved || l != nil {
		t.Error(e)
	}
	if sets, e := explain.All(api.Base{}, sample.Axiom("A sub A"), 9); e != api.OK || len(sets) != 1 || len(sets[0]) != 0 {
		t.Error(sets, e)
	}
	if sets, e := explain.All(api.Base{}, sample.Axiom("A sub B"), 9); e != api.OK || len(sets) != 0 {
		t.Error(sets, e)
	}
	s := api.Search{Open: [][]int{nil}, Spent: 1 << 30}
	if x, e := explain.Continue(two, a, s, 1); e != api.OK || x.Spent != 1<<30+1 {
		t.Error(e)
	}
	if x, e := explain.Continue(two, a, s, 2); e != api.ErrArg || x.Open != nil {
		t.Error(e)
	}
}

// large is too large for a closure, but not without its first axiom.
func large() api.Base {
	l := sample.Axioms("A sub B. Q sub R.")
	for i := range 300 {
		l = append(l, sample.Axiom("A sub some r {a"+strconv.Itoa(i)+"}"), sample.Axiom("type a"+strconv.Itoa(i)+" A"))
	}
	b, e := base.New(l)
	if e != api.OK {
		panic(e)
	}
	return b
}

// P17.1 and P17.2: the whole base is examined first.
func TestLimit(t *testing.T) {
	b := large()
	a := sample.Axiom("Q sub R")
	if _, _, e := explain.One(b, a, nil); e != api.ErrLimit {
		t.Error(e)
	}
	if _, e := explain.All(b, a, 99); e != api.ErrLimit {
		t.Error(e)
	}
	if _, e := explain.First(b, a); e != api.ErrLimit {
		t.Error(e)
	}
	if _, e := explain.Continue(b, a, hitting.Begin(), 0); e != api.OK {
		t.Error(e)
	}
	if _, e := explain.Continue(b, a, hitting.Begin(), 1); e != api.ErrLimit {
		t.Error(e)
	}
	var out []int
	for i := range b.Axioms {
		if b.Axioms[i].Kind == api.TypeA {
			out = append(out, i)
		}
	}
	if set, ok, e := explain.One(b, a, out); e != api.OK || !ok || len(set) != 1 {
		t.Error(set, ok, e)
	}
}

// ways returns a base in which "A sub B" follows from each axiom alone.
func ways(n int) api.Base {
	var l []api.Axiom
	for i := range n {
		l = append(l, sample.Axiom("A sub B and C"+strconv.Itoa(i)))
	}
	b, _ := base.New(l)
	return b
}

// P17.2: 256 explanations, and one more.
func TestManyExplanations(t *testing.T) {
	a := sample.Axiom("A sub B")
	b := ways(256)
	sets, e := explain.All(b, a, 257)
	if e != api.OK || len(sets) != 256 {
		t.Error(len(sets), e)
	}
	if _, e := explain.All(b, a, 256); e != api.ErrBudget {
		t.Error(e)
	}
	if l, e := explain.First(b, a); e != api.OK || len(l) != 1 || terms.CompareAxiom(l[0], b.Axioms[0]) != 0 {
		t.Error(e)
	}
	b = ways(257)
	if _, e := explain.All(b, a, 1<<30); e != api.ErrLimit {
		t.Error(e)
	}
	if l, e := explain.First(b, a); e != api.ErrLimit || l != nil {
		t.Error(e)
	}
}

// P17.1
func TestSort(t *testing.T) {
	if x, e := explain.Sort(two, [][]int{{1, 2}, {2}, {0, 2}, {2}, nil}); e != api.OK || !equal(x, [][]int{{}, {2}, {0, 2}, {1, 2}}) {
		t.Error(x, e)
	}
	for _, l := range [][][]int{{{0}, {3}}, {{1, 0}}, {{-1}}, {{1, 1}}} {
		if x, e := explain.Sort(two, l); e != api.ErrArg || x != nil {
			t.Error(l, e)
		}
	}
	if x, e := explain.Sort(api.Base{}, nil); e != api.OK || len(x) != 0 {
		t.Error(x, e)
	}
	bad := api.Base{Axioms: sample.Axioms("B sub A. A sub B.")}
	if x, e := explain.Sort(bad, [][]int{{9}}); e != api.ErrOrder || x != nil {
		t.Error(x, e)
	}
}

// P17.1, P17.2, P17.3 and P17.4
func TestRandom(t *testing.T) {
	r := rand.New(rand.NewSource(1))
	pool := sample.Axioms("A sub B. B sub C. A sub C. A sub some r B. some r C sub C. domain r C. A same D. D sub C. role r sub s. domain s C. A sub nothing. A disjoint B. C sub E. A and D sub E. chain r s sub s. reflexive r. role s sub t. reflexive t. link a r b. type a A. type b B. B sub f in 1 to 2. f in 0 to 5 sub C.")
	questions := sample.Axioms("A sub C. type a C. A same D. role r sub t. reflexive t. chain r r sub s. link a s b. A disjoint C. domain r C. A sub E.")
	for range 250 {
		var l []api.Axiom
		for range 2 + r.Intn(7) {
			l = append(l, pool[r.Intn(len(pool))])
		}
		b, e := base.New(l)
		if e != api.OK {
			continue
		}
		a := questions[r.Intn(len(questions))]
		var want [][]int
		for bits := range 1 << len(b.Axioms) {
			var set []int
			for i := range b.Axioms {
				if bits>>i&1 == 1 {
					set = append(set, i)
				}
			}
			if explains(b, a, set) {
				want = append(want, set)
			}
		}
		want, _ = hitting.Minimal(want)
		slices.SortFunc(want, compare)
		sets, e := explain.All(b, a, 1<<30)
		if e != api.OK || !equal(sets, want) {
			t.Fatal(b, a, sets, want)
		}
		first, e := explain.First(b, a)
		if len(want) == 0 && e != api.ErrUnproved || len(want) > 0 && (e != api.OK || len(first) != len(want[0]) || len(first) > 0 && terms.CompareAxiom(first[0], b.Axioms[want[0][0]]) != 0) {
			t.Fatal(b, a, first, e)
		}
		// The search step by step, with One by its definition.
		s := hitting.Begin()
		portions := s
		for !s.Done {
			out, _ := hitting.Next(s)
			set, ok, _ := greedy(b, a, out)
			one, ok2, e := explain.One(b, a, out)
			if e != api.OK || ok != ok2 || !slices.Equal(one, set) {
				t.Fatal(b, a, out, one, set)
			}
			s, _ = hitting.Give(s, set, !ok)
			if r.Intn(3) == 0 {
				if portions, e = explain.Continue(b, a, portions, s.Spent-portions.Spent); e != api.OK || fmt.Sprint(portions) != fmt.Sprint(s) {
					t.Fatal(b, a, portions, s)
				}
			}
		}
		portions, e = explain.Continue(b, a, portions, 1<<30)
		if e != api.OK || fmt.Sprint(portions) != fmt.Sprint(s) {
			t.Fatal(b, a, portions, s)
		}
		if _, e := explain.All(b, a, s.Spent); e != api.OK {
			t.Fatal(e)
		}
		if _, e := explain.All(b, a, s.Spent-1); e != api.ErrBudget {
			t.Fatal(e)
		}
	}
}

package repair_test

import (
	"cmp"
	"math/rand"
	"slices"
	"strconv"
	"testing"

	"veilstone/api"
	"veilstone/base"
	"veilstone/entail"
	"veilstone/explain"
	"veilstone/hitting"
	"veilstone/repair"
	"veilstone/sample"
)

func equal(a, b [][]int) bool { return slices.EqualFunc(a, b, slices.Equal[[]int]) }

func compare(a, b []int) int { return cmp.Or(cmp.Compare(len(a), len(b)), slices.Compare(a, b)) }

func sets(l ...[]int) [][]int { return l }
func set(l ...int) []int      { return l }

// P18.1
func TestAll(t *testing.T) {
	b := sample.Base("A sub B. B sub C. D sub C.") // 0, 1, 2
	for k, x := range []struct {
		a    string
		keep []int
		most int
		want [][]int
		e    api.Errno
	}{
		{"A sub C", nil, 5, sets(set(0), set(1)), api.OK}, {"A sub C", nil, 1, sets(set(0)), api.OK}, {"A sub C", nil, 0, nil, api.OK}, {"A sub C", set(0), 5, sets(set(1)), api.OK}, {"A sub C", set(1, 2), 5, sets(set(0)), api.OK}, {"A sub C", set(0, 1), 5, nil, api.ErrHolds}, {"A sub C", set(0, 1, 2), 0, nil, api.ErrHolds}, {"C sub A", set(0), 5, sets(nil), api.OK}, {"C sub A", nil, 0, nil, api.OK}, {"A sub A", nil, 5, nil, api.ErrHolds},
		{"A sub C", set(1, 0), 5, nil, api.ErrArg}, {"A sub C", set(3), 5, nil, api.ErrArg}, {"A sub C", set(-1), 5, nil, api.ErrArg}, {"A sub C", set(1, 1), 5, nil, api.ErrArg}, {"A sub C", nil, -1, nil, api.ErrArg}, {"A sub C", nil, 257, nil, api.ErrArg}, {"A sub C", nil, 256, sets(set(0), set(1)), api.OK},
	} {
		if l, e := repair.All(b, sample.Axiom(x.a), x.keep, x.most); e != x.e || !equal(l, x.want) {
			t.Error(k, l, e)
		}
	}
	r := sample.Base("role r sub s. role s sub t. chain s s sub t. reflexive s.")
	if l, e := repair.All(r, sample.Axiom("chain r r sub t"), nil, 9); e != api.OK || len(l) == 0 {
		t.Error(l, e)
	}
}

func big() api.Base {
	var l []api.Axiom
	for i := range 300 {
		l = append(l, sample.Axiom("type a"+strconv.Itoa(i)+" A"), sample.Axiom("A sub some r {a"+strconv.Itoa(i)+"}"))
	}
	b, _ := base.New(l)
	return b
}

// P18.1, P18.2 and P18.3
func TestErrors(t *testing.T) {
	bad := api.Base{Axioms: sample.Axioms("B sub A. A sub B.")}
	if l, e := repair.All(bad, api.Axiom{}, set(9), -1); e != api.ErrOrder || l != nil {
		t.Error(e)
	}
	if l, e := repair.All(api.Base{}, api.Axiom{Kind: api.ReflexiveA}, set(9), -1); e != api.ErrName || l != nil {
		t.Error(e)
	}
	if l, e := repair.All(big(), sample.Axiom("A sub B"), set(900), 5); e != api.ErrArg || l != nil {
		t.Error(e)
	}
	if l, e := repair.All(big(), sample.Axiom("A sub B"), nil, 5); e != api.ErrLimit || l != nil {
		t.Error(e)
	}
	for _, f := range []func(b api.Base, keep []int, most int) ([][]int, api.Errno){repair.Clash, repair.Contradictions} {
		for k, x := range []struct {
			b    api.Base
			keep []int
			most int
			e    api.Errno
		}{{bad, set(9), -1, api.ErrOrder}, {api.Base{}, set(0), 5, api.ErrArg}, {api.Base{}, nil, -1, api.ErrArg}, {api.Base{}, nil, 257, api.ErrArg}, {big(), nil, 257, api.ErrArg}, {big(), nil, 5, api.ErrLimit}} {
			if l, e := f(x.b, x.keep, x.most); e != x.e || l != nil {
				t.Error(k, e)
			}
		}
	}
	if x, e := repair.Apply(bad, set(9)); e != api.ErrOrder || x.Axioms != nil {
		t.Error(e)
	}
}

// P18.2
func TestClash(t *testing.T) {
	b := sample.Base("A disjoint B. type a A. type a B. type b A. type b B. type c A.")
	// A disjoint B; type a A; a B; b A; b B; c A
	order := []string{"A disjoint B", "type a A", "type a B", "type b A", "type b B", "type c A"}
	at := map[string]int{}
	for _, s := range order {
		at[s], _ = base.Find(b, sample.Axiom(s))
	}
	d, aA, aB, bA, bB := at[order[0]], at[order[1]], at[order[2]], at[order[3]], at[order[4]]
	sorted := func(l ...int) []int { slices.Sort(l); return l }
	list := func(l ...[]int) [][]int { slices.SortFunc(l, compare); return l }
	for k, x := range []struct {
		keep    []int
		most    int
		repairs [][]int
		clashes [][]int
	}{
		{nil, 9, list(set(d), sorted(aA, bA), sorted(aA, bB), sorted(aB, bA), sorted(aB, bB)), list(sorted(d, aA, aB), sorted(d, bA, bB))}, {set(d), 9, list(sorted(aA, bA), sorted(aA, bB), sorted(aB, bA), sorted(aB, bB)), list(sorted(aA, aB), sorted(bA, bB))}, {sorted(d, aA), 9, list(sorted(aB, bA), sorted(aB, bB)), list(set(aB), sorted(bA, bB))}, {sorted(d, aA), 1, list(sorted(aB, bA), sorted(aB, bB))[:1], list(set(aB))}, {nil, 0, nil, nil},
	} {
		if l, e := repair.Clash(b, x.keep, x.most); e != api.OK || !equal(l, x.repairs) {
			t.Error(k, l, e, x.repairs)
		}
		if l, e := repair.Contradictions(b, x.keep, x.most); e != api.OK || !equal(l, x.clashes) {
			t.Error(k, l, e, x.clashes)
		}
	}
	if l, e := repair.Clash(b, sorted(d, aA, aB), 9); e != api.ErrHolds || l != nil {
		t.Error(l, e)
	}
	if l, e := repair.Contradictions(b, sorted(d, aA, aB), 9); e != api.OK || !equal(l, sets(nil)) {
		t.Error(l, e)
	}
	fine := sample.Base("A disjoint B. type a A.")
	if l, e := repair.Clash(fine, nil, 0); e != api.OK || len(l) != 0 {
		t.Error(l, e)
	}
	if l, e := repair.Clash(fine, nil, 5); e != api.OK || !equal(l, sets(nil)) {
		t.Error(l, e)
	}
	if l, e := repair.Contradictions(fine, nil, 5); e != api.OK || len(l) != 0 {
		t.Error(l, e)
	}
}

// pairs has n clashes with two private axioms each, if the open one is kept.
func pairs(n int) (b api.Base, keep []int) {
	l := sample.Axioms("open A disjoint B.")
	for i := range n {
		l = append(l, sample.Axiom("type a"+strconv.Itoa(i)+" A"), sample.Axiom("type a"+strconv.Itoa(i)+" B"))
	}
	b, _ = base.New(l)
	at, _ := base.Find(b, l[0])
	return b, []int{at}
}

// P18.2: any number of repairs, but at most 256 clashes.
func TestMany(t *testing.T) {
	b, keep := pairs(40)
	l, e := repair.Clash(b, keep, 3)
	if e != api.OK || len(l) != 3 || len(l[0]) != 40 || compare(l[0], l[1]) >= 0 || compare(l[1], l[2]) >= 0 {
		t.Fatal(l, e)
	}
	c, e := repair.Contradictions(b, keep, 256)
	if e != api.OK || len(c) != 40 {
		t.Fatal(len(c), e)
	}
	// The first repair takes the first element of each clash.
	var first []int
	for _, s := range c {
		first = append(first, s[0])
	}
	slices.Sort(first)
	if !slices.Equal(l[0], first) {
		t.Error(l[0], first)
	}
	// Triangles: each individual has three facts, any two of which contradict each other.
	triangles := sample.Axioms("open A disjoint B. open A disjoint C. open B disjoint C.")
	for i := range 20 {
		for _, c := range []string{"A", "B", "C"} {
			triangles = append(triangles, sample.Axiom("type a"+strconv.Itoa(i)+" "+c))
		}
	}
	x, _ := base.New(triangles)
	keep = nil
	for i, a := range x.Axioms {
		if a.Open {
			keep = append(keep, i)
		}
	}
	l, e = repair.Clash(x, keep, 256)
	if e != api.OK || len(l) != 256 || len(l[255]) != 40 || !slices.IsSortedFunc(l, compare) {
		t.Error(len(l), e)
	}
	for _, s := range l {
		if y, _ := repair.Apply(x, s); len(y.Axioms) != 23 {
			t.Error(s)
		} else if ok, _ := entail.Consistent(y); !ok {
			t.Error(s)
		}
	}
	ways := func(n int) api.Base {
		var l []api.Axiom
		for i := range n {
			l = append(l, sample.Axiom("A sub B and C"+strconv.Itoa(i)))
		}
		b, _ := base.New(l)
		return b
	}
	if l, e := repair.All(ways(256), sample.Axiom("A sub B"), nil, 5); e != api.OK || len(l) != 1 || len(l[0]) != 256 {
		t.Error(len(l), e)
	}
	if l, e := repair.All(ways(257), sample.Axiom("A sub B"), nil, 5); e != api.ErrLimit || l != nil {
		t.Error(e)
	}
	if l, e := repair.All(ways(257), sample.Axiom("A sub B"), set(3), 5); e != api.ErrHolds || l != nil {
		t.Error(e)
	}
}

// P18.3
func TestApply(t *testing.T) {
	b := sample.Base("A sub B. B sub C. D sub C.")
	for _, x := range []struct {
		out  []int
		want string
		e    api.Errno
	}{{nil, "A sub B. B sub C. D sub C.", api.OK}, {set(0, 2), "B sub C.", api.OK}, {set(0, 1, 2), "", api.OK}, {set(3), "", api.ErrArg}, {set(1, 0), "", api.ErrArg}, {set(-1), "", api.ErrArg}, {set(1, 1), "", api.ErrArg}} {
		if y, e := repair.Apply(b, x.out); e != x.e || !base.Same(y, sample.Base(x.want)) {
			t.Error(x, y, e)
		}
	}
}

// minimal returns the minimal sets outside of keep that pass a test together with keep.
func minimal(b api.Base, keep []int, test func(api.Base) bool) (l [][]int) {
	for bits := range 1 << len(b.Axioms) {
		var s []int
		for i := range b.Axioms {
			if bits>>i&1 == 1 {
				s = append(s, i)
			}
		}
		if slices.ContainsFunc(s, func(n int) bool { return slices.Contains(keep, n) }) {
			continue
		}
		whole := slices.Concat(s, keep)
		slices.Sort(whole)
		x, _ := base.Keep(b, whole)
		if test(x) {
			l = append(l, s)
		}
	}
	l, _ = hitting.Minimal(l)
	return l
}

// P18.1, P18.2 and P18.4
func TestRandom(t *testing.T) {
	r := rand.New(rand.NewSource(1))
	pool := sample.Axioms("A sub B. B sub C. A sub C. A sub some r B. some r C sub C. domain r C. A same D. role r sub s. domain s C. A sub nothing. A disjoint B. A and D sub E. type a A. type a B. type b A. link a r b. link b s a. B disjoint C. reflexive r. everything sub C. type b C. C sub nothing.")
	goals := sample.Axioms("A sub C. type a C. A same D. role r sub s. link a s b. type b nothing. domain r C.")
	for range 200 {
		var l []api.Axiom
		for range 2 + r.Intn(7) {
			l = append(l, pool[r.Intn(len(pool))])
		}
		b, _ := base.New(l)
		var keep []int
		for i := range b.Axioms {
			if r.Intn(5) == 0 {
				keep = append(keep, i)
			}
		}
		a := goals[r.Intn(len(goals))]
		entails := func(x api.Base) bool { ok, _ := entail.Entails(x, a); return ok }
		clashes := func(x api.Base) bool { ok, _ := entail.Consistent(x); return !ok }
		for k, test := range []func(api.Base) bool{entails, clashes} {
			causes := minimal(b, keep, test)
			want, _ := hitting.All(causes, 256)
			got, e := repair.All(b, a, keep, 256)
			if k == 1 {
				got, e = repair.Clash(b, keep, 256)
				c, e := repair.Contradictions(b, keep, 256)
				if e != api.OK || !equal(c, causes) {
					t.Fatal(b, keep, c, causes)
				}
			}
			if len(causes) == 1 && len(causes[0]) == 0 {
				if e != api.ErrHolds || got != nil {
					t.Fatal(b, keep, a, e)
				}
				continue
			}
			if e != api.OK || !equal(got, want) {
				t.Fatal(b, keep, a, got, want)
			}
			for _, s := range got {
				x, _ := repair.Apply(b, s)
				if test(x) {
					t.Fatal("not repaired")
				}
				for i := range s {
					if y, _ := repair.Apply(b, slices.Delete(slices.Clone(s), i, i+1)); !test(y) {
						t.Fatal("too much dropped")
					}
				}
			}
			if k == 0 && len(keep) == 0 {
				if l, _ := explain.All(b, a, 1<<30); !equal(l, causes) {
					t.Fatal("explanations", l, causes)
				}
			}
		}
	}
}

// P18.1: the first of many repairs, by the definition of their order.
func TestOrder(t *testing.T) {
	r := rand.New(rand.NewSource(2))
	for range 3 {
		// Goals "A sub Z" by independent ways of two or three steps that share some axioms.
		var l []api.Axiom
		for i := range 5 {
			n := strconv.Itoa(i)
			m := strconv.Itoa(r.Intn(i + 1))
			l = append(l, sample.Axiom("A sub B"+n), sample.Axiom("B"+m+" sub C"+n), sample.Axiom("C"+n+" sub D"+n), sample.Axiom("D"+n+" sub Z"))
		}
		b, _ := base.New(l)
		a := sample.Axiom("A sub Z")
		causes, e := explain.All(b, a, 1<<30)
		if e != api.OK {
			t.Fatal(e)
		}
		got, e := repair.All(b, a, nil, 256)
		if e != api.OK || !slices.IsSortedFunc(got, compare) || len(got) < 50 {
			t.Fatal(len(got), e)
		}
		// No hitting set that is less than the last one is left out.
		last := got[len(got)-1]
		count := 0
		var walk func(i int, s []int)
		walk = func(i int, s []int) {
			if len(s) > len(last) {
				return
			}
			if i == len(causes) {
				s = slices.Clone(s)
				slices.Sort(s)
				count++
				if _, ok := slices.BinarySearchFunc(got, s, compare); !ok && compare(s, last) < 0 && isMinimal(causes, s) {
					t.Fatal("left out", s, last)
				}
				return
			}
			if slices.ContainsFunc(causes[i], func(n int) bool { return slices.Contains(s, n) }) {
				walk(i+1, s)
				return
			}
			for _, n := range causes[i] {
				walk(i+1, append(slices.Clone(s), n))
			}
		}
		walk(0, nil)
		if count == 0 {
			t.Fatal("nothing examined")
		}
	}
}

func isMinimal(causes [][]int, s []int) bool {
	for i := range s {
		if hitting.Hits(causes, slices.Delete(slices.Clone(s), i, i+1)) {
			return false
		}
	}
	return true
}

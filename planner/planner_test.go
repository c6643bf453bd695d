package planner_test

import (
	"fmt"
	"math/rand"
	"reflect"
	"slices"
	"strconv"
	"strings"
	"testing"

	"veilstone/api"
	"veilstone/canon"
	"veilstone/genuine"
	"veilstone/planner"
	"veilstone/query"
	"veilstone/sample"
)

func build(src string) api.Model {
	m, e := canon.Build(sample.Axioms(src))
	if e != api.OK {
		panic(src)
	}
	return m
}

func plan(order ...int) api.Plan { return api.Plan{Order: order} }

var small = build("type a A. type b B. type c B. link a r b. link b r c. A sub some s D. role s sub r. type a f in 1 to 3. D sub some s {b}.")

// P24.1
func TestCheck(t *testing.T) {
	two := sample.Part("A(?x) and B(?x)")
	for k, x := range []struct {
		p api.Part
		x api.Plan
		e api.Errno
	}{{two, plan(0, 1), api.OK}, {two, plan(1, 0), api.OK}, {two, plan(0, 0), api.ErrPlan}, {two, plan(0), api.ErrPlan}, {two, plan(0, 1, 1), api.ErrPlan}, {two, plan(0, 2), api.ErrPlan}, {two, plan(-1, 0), api.ErrPlan}, {two, plan(), api.ErrPlan}, {api.Part{}, plan(), api.OK}, {api.Part{}, plan(0), api.ErrPlan}, {api.Part{Atoms: []api.Atom{{Kind: 99}}}, plan(0), api.OK}} {
		if e := planner.Check(x.p, x.x); e != x.e {
			t.Error(k, e)
		}
	}
}

// cost is Cost by its definition.
func cost(m api.Model, p api.Part, order []int) int {
	known := map[string]bool{}
	total, product := 0, 1
	for _, i := range order {
		a := p.Atoms[i]
		k := func(t string) bool { return t == "" || t[0] != '?' || known[t] }
		count := 0
		for _, n := range m.Nodes {
			if a.Kind == api.ConceptQ && canon.Concept(m, n, a.Name) || a.Kind == api.RangeQ && canon.Range(m, n, a.Name, api.Interval{Lo: a.Lo, Hi: a.Hi}) {
				count++
			}
			for _, o := range m.Nodes {
				if a.Kind == api.RoleQ && canon.Role(m, n, a.Name, o) {
					count++
				}
			}
		}
		if k(a.X) && k(a.Y) {
			count = 1
		} else if a.Kind == api.RoleQ && (k(a.X) || k(a.Y)) {
			if len(m.Nodes) > 0 {
				count = (count + len(m.Nodes) - 1) / len(m.Nodes)
			}
		}
		product *= count
		total += product
		known[a.X], known[a.Y] = true, true
	}
	return total
}

// P24.1
func TestCost(t *testing.T) {
	for _, x := range []struct {
		part  string
		order []int
		want  int
	}{
		{"A(?x)", []int{0}, 1}, {"B(?x)", []int{0}, 2}, {"B(?x) and r(?x, ?y)", []int{0, 1}, 2 + 2*1}, {"B(?x) and r(?x, ?y)", []int{1, 0}, 4 + 4*1}, {"r(?x, ?x)", []int{0}, 4}, {"r(a, ?x)", []int{0}, 1}, {"r(a, b)", []int{0}, 1}, {"r(?x, ?y) and r(?y, ?x)", []int{1, 0}, 8}, {"f(?x) in 0 to 5 and Z(?x)", []int{1, 0}, 0}, {"f(?x) in 0 to 5 and Z(?x)", []int{0, 1}, 2}, {"f(?x) in 2 to 5 and B(?y)", []int{0, 1}, 0},
	} {
		if n, e := planner.Cost(small, sample.Part(x.part), plan(x.order...)); e != api.OK || n != x.want {
			t.Error(x, n, e)
		}
	}
	if n, e := planner.Cost(api.Model{}, sample.Part("r(a, ?x) and r(?x, ?y)"), plan(0, 1)); e != api.OK || n != 0 {
		t.Error(n, e)
	}
	// A cost that is cut off at 2^40.
	var src strings.Builder
	for i := range 60 {
		src.WriteString("type a" + strconv.Itoa(i) + " A. ")
	}
	m := build(src.String())
	p := sample.Part("A(?a) and A(?b) and A(?c) and A(?d) and A(?e) and A(?f) and A(?g) and A(?h)")
	if n, e := planner.Cost(m, p, plan(0, 1, 2, 3, 4, 5, 6, 7)); e != api.OK || n != 1<<40 {
		t.Error(n, e)
	}
	p.Atoms[7].Name = "Z"
	if n, e := planner.Cost(m, p, plan(7, 0, 1, 2, 3, 4, 5, 6)); e != api.OK || n != 0 {
		t.Error(n, e)
	}
	if n, e := planner.Cost(m, p, plan(0, 1, 2, 3, 4, 5, 7, 6)); e != api.OK || n != 60+60*60+60*60*60+60*60*60*60+60*60*60*60*60+60*60*60*60*60*60 {
		t.Error(n, e)
	}
}

// P24.1 and P24.2
func TestErrors(t *testing.T) {
	bad := api.Model{Nodes: []string{"B", "A"}}
	one := sample.Part("A(?x)")
	for k, x := range []struct {
		m    api.Model
		p    api.Part
		x    api.Plan
		most int
		e    api.Errno
	}{{bad, api.Part{}, plan(0), -1, api.ErrArg}, {small, api.Part{}, plan(0), -1, api.ErrQuery}, {small, api.Part{Atoms: []api.Atom{{Kind: 1, Name: "3", X: "?x"}}}, plan(7), -1, api.ErrName}, {small, one, plan(1), -1, api.ErrPlan}, {small, one, plan(0), -1, api.ErrArg}, {small, one, plan(0), 65537, api.ErrArg}, {small, sample.Part("B(?x)"), plan(0), 1, api.ErrLimit}, {small, sample.Part("B(?x)"), plan(0), 2, api.OK}, {small, one, plan(0), 65536, api.OK}, {api.Model{}, one, plan(0), 0, api.OK}} {
		if l, e := planner.Run(x.m, x.p, x.x, x.most); e != x.e || e != api.OK && l != nil {
			t.Error(k, e)
		}
		if k < 4 {
			if n, e := planner.Cost(x.m, x.p, x.x); e != x.e || n != 0 {
				t.Error(k, e)
			}
		}
		if k < 3 {
			if y, e := planner.Best(x.m, x.p); e != x.e || y.Order != nil {
				t.Error(k, e)
			}
		}
	}
	if l, e := planner.Run(small, sample.Part("A(z)"), plan(0), 5); e != api.OK || len(l) != 0 {
		t.Error(l, e)
	}
}

// permutations returns all orders, in lexicographic order.
func permutations(n int) (l [][]int) {
	var extend func(p []int)
	extend = func(p []int) {
		if len(p) == n {
			l = append(l, slices.Clone(p))
		}
		for i := range n {
			if !slices.Contains(p, i) {
				extend(append(p, i))
			}
		}
	}
	extend(nil)
	return l
}

// P24.1
func TestBest(t *testing.T) {
	var src strings.Builder
	for i := range 10 {
		src.WriteString("type b" + strconv.Itoa(i) + " B. ")
	}
	m := build(src.String() + "type b3 A. link b3 r b4. link b5 r b6.")
	for part, want := range map[string][]int{
		"A(?x) and B(?x)": {0, 1}, "B(?x) and A(?x)": {1, 0}, "B(?x) and B(?y)": {0, 1}, "B(?y) and r(?x, ?y) and A(?x)": {2, 0, 1},
		// Seven atoms: the one with the fewest candidates each time.
		"B(?x) and B(?y) and r(?x, ?y) and A(?x) and B(?z) and r(?z, ?z) and B(b1)": {3, 0, 2, 1, 6, 5, 4},
	} {
		p := sample.Part(part)
		x, e := planner.Best(m, p)
		if e != api.OK {
			t.Error(e)
		}
		if len(p.Atoms) <= 6 {
			best := -1
			for _, order := range permutations(len(p.Atoms)) {
				if n := cost(m, p, order); best < 0 || n < best {
					best, want = n, order
				}
			}
		}
		if !slices.Equal(x.Order, want) {
			t.Errorf("%s: %v, want %v", part, x.Order, want)
		}
	}
	if x, e := planner.Best(small, sample.Part("A(?x) and B(?y)")); e != api.OK || !slices.Equal(x.Order, []int{0, 1}) {
		t.Error(x, e)
	}
}

// P24.1, P24.2 and P24.3
func TestRandom(t *testing.T) {
	r := rand.New(rand.NewSource(1))
	pool := sample.Axioms("type a A. type b A. A sub some r B. B sub some r B. B sub some s A. role r sub t. link a r b. link b s b. B sub some r {a}. type b f in 1 to 3. B sub f in 2 to 5. type c B.")
	for range 400 {
		var l []api.Axiom
		for _, a := range pool {
			if r.Intn(2) == 0 {
				l = append(l, a)
			}
		}
		m, _ := canon.Build(l)
		var p api.Part
		terms := []string{"?x", "?y", "?z", "a"}
		for range 1 + r.Intn(4) {
			x, y := terms[r.Intn(4)], terms[r.Intn(4)]
			p.Atoms = append(p.Atoms, []api.Atom{{Kind: api.RoleQ, Name: []string{"r", "s", "t"}[r.Intn(3)], X: x, Y: y}, {Kind: api.ConceptQ, Name: []string{"A", "B"}[r.Intn(2)], X: x}, {Kind: api.RangeQ, Name: "f", X: x, Lo: r.Intn(2), Hi: 4 + r.Intn(2)}}[min(r.Intn(4), 2)])
		}
		best, e := planner.Best(m, p)
		if e != api.OK || planner.Check(p, best) != api.OK {
			t.Fatal(best, e)
		}
		lowest, _ := planner.Cost(m, p, best)
		want := -1
		var first []int
		for _, order := range permutations(len(p.Atoms)) {
			n, e := planner.Cost(m, p, plan(order...))
			if e != api.OK || n != cost(m, p, order) {
				t.Fatal(l, p, order, n, cost(m, p, order))
			}
			if want < 0 || n < want {
				want, first = n, order
			}
		}
		if lowest != want || !slices.Equal(best.Order, first) {
			t.Fatal(p, best, first)
		}
		found, e := planner.Run(m, p, best, 65536)
		all := assignments(m, p)
		if e != api.OK || fmt.Sprint(found) != fmt.Sprint(all) {
			t.Fatalf("%v %v:\n%v\n%v", l, p, found, all)
		}
		mixed := api.Part{Atoms: slices.Concat(p.Atoms, p.Atoms[:1])}
		r.Shuffle(len(mixed.Atoms), func(i, k int) { mixed.Atoms[i], mixed.Atoms[k] = mixed.Atoms[k], mixed.Atoms[i] })
		again, e := planner.Run(m, mixed, plan(r.Perm(len(mixed.Atoms))...), len(all))
		if e != api.OK || !reflect.DeepEqual(again, found) {
			t.Fatal("the plan matters", p, mixed)
		}
		genuines, _ := genuine.All(m, p, 65536)
		for _, x := range genuines {
			if !slices.ContainsFunc(found, func(y api.Match) bool { return slices.Equal(x.Binds, y.Binds) }) {
				t.Fatal("a genuine match is missing")
			}
		}
	}
}

// assignments returns all assignments that satisfy a part, in order.
func assignments(m api.Model, p api.Part) (l []api.Match) {
	names := query.Variables(p)
	for _, a := range p.Atoms {
		if a.X == "a" || a.Y == "a" {
			names = append(names, "a")
			break
		}
	}
	var try func(x api.Match)
	try = func(x api.Match) {
		if len(x.Binds) < len(names) {
			nodes := slices.Sorted(slices.Values(m.Nodes))
			for _, n := range nodes {
				if t := names[len(x.Binds)]; t != "a" || n == "{a}" {
					try(api.Match{Binds: append(slices.Clone(x.Binds), api.Bind{Term: t, Node: n})})
				}
			}
			return
		}
		at := map[string]string{}
		for _, b := range x.Binds {
			at[b.Term] = b.Node
		}
		for _, a := range p.Atoms {
			ok := a.Kind == api.ConceptQ && canon.Concept(m, at[a.X], a.Name) || a.Kind == api.RoleQ && canon.Role(m, at[a.X], a.Name, at[a.Y]) || a.Kind == api.RangeQ && canon.Range(m, at[a.X], a.Name, api.Interval{Lo: a.Lo, Hi: a.Hi})
			if !ok {
				return
			}
		}
		l = append(l, x)
	}
	try(api.Match{})
	return l
}

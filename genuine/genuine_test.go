package genuine_test

import (
	"fmt"
	"math/rand"
	"reflect"
	"slices"
	"strings"
	"testing"

	"veilstone/api"
	"veilstone/canon"
	"veilstone/genuine"
	"veilstone/query"
	"veilstone/sample"
)

func build(src string) api.Model {
	m, e := canon.Build(sample.Axioms(src))
	if e != api.OK {
		panic(src)
	}
	return m
}

// bind makes a match of "?x=A a={a}".
func bind(s string) (x api.Match) {
	for _, f := range strings.Fields(s) {
		term, node, _ := strings.Cut(f, "=")
		x.Binds = append(x.Binds, api.Bind{Term: term, Node: node})
	}
	return x
}

func show(x api.Match) string {
	var s []string
	for _, b := range x.Binds {
		s = append(s, b.Term+"="+b.Node)
	}
	return strings.Join(s, " ")
}

// The chain of B is endless; each B also has a C by s, and t contains both roles.
const endless = "type a A. A sub some r B. B sub some r B. B sub some s C. role r sub t. role s sub t. link a q b. type b A."

// P23.1
func TestCheck(t *testing.T) {
	m := build(endless)
	for _, x := range []struct {
		part, match string
		e           api.Errno
	}{
		{"r(?x, ?y)", "?x=B ?y=B", api.OK}, {"r(?x, ?y) and r(?y, ?x)", "?x=B ?y=B", api.ErrMatch}, {"r(?x, ?x)", "?x=B", api.ErrMatch}, {"r(?x, ?y) and r(?y, ?z)", "?x={a} ?y=B ?z=B", api.OK}, {"r(?x, ?z) and r(?y, ?z)", "?x=B ?y=B ?z=B", api.OK}, {"r(?x, ?z) and r(?y, ?z)", "?x={a} ?y=B ?z=B", api.ErrMatch}, {"r(?x, ?z) and r(?y, ?z)", "?x={a} ?y={b} ?z=B", api.ErrMatch}, {"r(?x, ?z) and r(?y, ?z)", "?x={a} ?y={a} ?z=B", api.OK},
		{"s(?x, ?y) and t(?x, ?y)", "?x=B ?y=C", api.OK}, {"s(?x, ?y) and r(?x, ?y)", "?x=B ?y=C", api.ErrMatch}, {"r(?x, ?y) and s(?y, ?z) and t(?v, ?z) and r(?w, ?v)", "?v=B ?w={a} ?x={a} ?y=B ?z=C", api.OK}, {"r(?x, ?y) and s(?y, ?z) and t(?v, ?z) and r(?w, ?v)", "?v=B ?w={b} ?x={a} ?y=B ?z=C", api.ErrMatch},
		{"A(?x)", "", api.ErrMatch}, {"A(?x)", "?x={a}", api.OK}, {"A(?x)", "?x=B", api.ErrMatch}, {"A(?x)", "?x={z}", api.ErrMatch}, {"A(?x)", "?x={a} ?y={a}", api.ErrMatch}, {"A(?x)", "?y={a}", api.ErrMatch}, {"A(a)", "a={a}", api.OK}, {"A(a)", "a={b}", api.ErrMatch}, {"q(a, ?x)", "?x={b} a={a}", api.OK}, {"q(a, ?x)", "a={a} ?x={b}", api.ErrMatch}, {"q(a, ?x)", "?x={a} a={a}", api.ErrMatch},
	} {
		if e := genuine.Check(m, sample.Part(x.part), bind(x.match)); e != x.e {
			t.Errorf("%s %s: %d", x.part, x.match, e)
		}
	}
	// Two links with different roles between the same nodes: no element has both.
	m = build("type a A. A sub some r B. A sub some s B.")
	if e := genuine.Check(m, sample.Part("r(?x, ?y) and s(?x, ?y)"), bind("?x={a} ?y=B")); e != api.ErrMatch {
		t.Error(e)
	}
	// A condition of the equivalence: the node of the term itself is nameless.
	m = build("type a A. A sub some r {c}. type b A. type c C.")
	if e := genuine.Check(m, sample.Part("r(?x, ?z) and r(?y, ?z)"), bind("?x={a} ?y={b} ?z={c}")); e != api.OK {
		t.Error(e)
	}
}

// P23.1
func TestClasses(t *testing.T) {
	m := build(endless)
	for _, x := range []struct{ part, match, want string }{
		{"r(?x, ?z) and r(?y, ?z)", "?x={a} ?y=B ?z=B", "[[?x ?y] [?z]]"}, {"r(?x, ?z) and r(?y, ?w)", "?w=B ?x={a} ?y={a} ?z=B", "[[?w] [?x ?y] [?z]]"}, {"A(?x) and A(a)", "?x={a} a={a}", "[[?x a]]"}, {"A(?x) and B(?y)", "?x={a} ?y={a}", "[[?x ?y]]"}, {"A(?x) and B(?y)", "?x=B ?y=B", "[[?x] [?y]]"},
		{"r(?x, ?y) and s(?y, ?z) and t(?v, ?z) and r(?w, ?v)", "?v=B ?w={b} ?x={a} ?y=B ?z=C", "[[?v ?y] [?w ?x] [?z]]"}, {"r(?x, ?y) and r(?y, ?x)", "?x={a} ?y={b}", "[[?x] [?y]]"},
	} {
		l, e := genuine.Classes(m, sample.Part(x.part), bind(x.match))
		if e != api.OK || fmt.Sprint(l) != x.want {
			t.Errorf("%s %s: %v, %d", x.part, x.match, l, e)
		}
	}
	if l, e := genuine.Classes(m, sample.Part("A(?x)"), api.Match{}); e != api.ErrMatch || l != nil {
		t.Error(l, e)
	}
}

// P23.1, P23.2 and P23.3
func TestErrors(t *testing.T) {
	bad := api.Model{Nodes: []string{"B", "A"}}
	m := build(endless)
	for k, x := range []struct {
		m api.Model
		p api.Part
		e api.Errno
	}{{bad, api.Part{}, api.ErrArg}, {m, api.Part{}, api.ErrQuery}, {m, api.Part{Atoms: []api.Atom{{Kind: 1, Name: "3", X: "?x"}}}, api.ErrName}} {
		if e := genuine.Check(x.m, x.p, api.Match{}); e != x.e {
			t.Error(k, e)
		}
		if l, e := genuine.Classes(x.m, x.p, api.Match{}); e != x.e || l != nil {
			t.Error(k, e)
		}
		if l, e := genuine.All(x.m, x.p, -1); e != x.e || l != nil {
			t.Error(k, e)
		}
		if ok, e := genuine.Holds(x.m, api.Forest{Nodes: []string{"?"}}, x.p, nil); e != x.e || ok {
			t.Error(k, e)
		}
	}
	p := sample.Part("r(?x, ?y)")
	for most, want := range map[int]api.Errno{-1: api.ErrArg, 65537: api.ErrArg, 65536: api.OK, 0: api.ErrLimit, 2: api.ErrLimit, 3: api.OK} {
		if l, e := genuine.All(m, p, most); e != want || (e == api.OK) != (len(l) == 3) {
			t.Error(most, len(l), e)
		}
	}
	for k, x := range []struct {
		m           api.Model
		depth, most int
		e           api.Errno
	}{{bad, -1, -1, api.ErrArg}, {m, -1, 5, api.ErrArg}, {m, 65, 5, api.ErrArg}, {m, 5, -1, api.ErrArg}, {m, 5, 65537, api.ErrArg}, {m, 0, 1, api.ErrLimit}, {m, 0, 2, api.OK}, {m, 1, 3, api.ErrLimit}, {m, 1, 4, api.OK}, {m, 64, 65536, api.OK}, {m, 64, 100, api.ErrLimit}, {api.Model{}, 3, 0, api.OK}} {
		if f, e := genuine.Unravel(x.m, x.depth, x.most); e != x.e || e != api.OK && f.Nodes != nil {
			t.Error(k, len(f.Nodes), e)
		}
	}
}

// P23.2
func TestAll(t *testing.T) {
	m := build(endless)
	for part, want := range map[string]string{
		"r(?x, ?y)": "?x=B ?y=B; ?x={a} ?y=B; ?x={b} ?y=B", "r(?x, ?y) and r(?y, ?x)": "", "A(?x)": "?x={a}; ?x={b}", "q(?x, ?y)": "?x={a} ?y={b}", "A(z)": "", "A(a) and q(a, ?x)": "?x={b} a={a}", "s(?x, ?y) and t(?z, ?y)": "?x=B ?y=C ?z=B", "C(?x)": "?x=C", "r(?x, ?x)": "",
	} {
		l, e := genuine.All(m, sample.Part(part), 99)
		var s []string
		for _, x := range l {
			s = append(s, show(x))
		}
		if e != api.OK || strings.Join(s, "; ") != want {
			t.Errorf("%s: %v, %d", part, s, e)
		}
	}
	if l, e := genuine.All(api.Model{}, sample.Part("A(?x)"), 5); e != api.OK || len(l) != 0 {
		t.Error(l, e)
	}
}

// P23.3
func TestUnravel(t *testing.T) {
	m := build("type a A. A sub some r B. B sub some r B.")
	f, e := genuine.Unravel(m, 2, 99)
	if want := (api.Forest{Nodes: []string{"{a}", "B", "B"}, Parents: []int{-1, 0, 1}, Roles: []string{"", "r", "r"}}); e != api.OK || !reflect.DeepEqual(f, want) {
		t.Error(f, e)
	}
	m = build(endless)
	f, e = genuine.Unravel(m, 2, 99)
	if want := (api.Forest{Nodes: []string{"{a}", "{b}", "B", "B", "B", "C", "B", "C"}, Parents: []int{-1, -1, 0, 1, 2, 2, 3, 3}, Roles: []string{"", "", "r", "r", "r", "s", "r", "s"}}); e != api.OK || !reflect.DeepEqual(f, want) {
		t.Error(f, e)
	}
}

// P23.3
func TestHolds(t *testing.T) {
	m := build(endless)
	f, _ := genuine.Unravel(m, 3, 999)
	for _, x := range []struct {
		part, binds string
		want        bool
		e           api.Errno
	}{
		{"r(?x, ?y) and r(?y, ?x)", "", false, api.OK}, {"r(?x, ?y) and r(?y, ?z)", "", true, api.OK}, {"r(?x, ?y) and r(?y, ?z)", "?x=B", true, api.OK}, {"r(?x, ?y) and r(?y, ?z) and r(?z, ?w)", "?x=B", false, api.OK}, {"r(?x, ?y) and r(?y, ?z) and r(?z, ?w)", "?x={b}", true, api.OK}, {"q(a, ?y) and A(?y)", "", true, api.OK}, {"q(a, ?y) and A(?y)", "?y={b} a={a}", true, api.OK}, {"q(a, ?y) and A(?y)", "a={b}", false, api.OK}, {"q(a, ?y) and A(?y)", "?y=B", false, api.OK}, {"A(z)", "", false, api.OK}, {"t(?x, ?y) and C(?y)", "", true, api.OK}, {"r(?x, ?y) and C(?y)", "", false, api.OK}, {"B(?x) and C(?y)", "", true, api.OK}, {"r(?x, ?x)", "", false, api.OK},
		{"r(?x, ?y)", "?z=B", false, api.ErrArg}, {"r(?x, ?y)", "?y=B ?x=B", false, api.ErrArg}, {"r(?x, ?y)", "?x=Z", false, api.ErrArg}, {"r(?x, ?y)", "?x=B ?x=B", false, api.ErrArg},
	} {
		if ok, e := genuine.Holds(m, f, sample.Part(x.part), bind(x.binds).Binds); ok != x.want || e != x.e {
			t.Errorf("%s %s: %v, %d", x.part, x.binds, ok, e)
		}
	}
	p := sample.Part("r(?x, ?y)")
	for k, f := range []api.Forest{
		{Nodes: []string{"{a}"}}, {Nodes: []string{"{a}"}, Parents: []int{-1}}, {Nodes: []string{"{a}"}, Parents: []int{0}, Roles: []string{""}}, {Nodes: []string{"{a}"}, Parents: []int{-1}, Roles: []string{"r"}}, {Nodes: []string{"{z}"}, Parents: []int{-1}, Roles: []string{""}}, {Nodes: []string{"{a}", "{a}"}, Parents: []int{-1, -1}, Roles: []string{"", ""}}, {Nodes: []string{"B"}, Parents: []int{-1}, Roles: []string{"r"}}, {Nodes: []string{"B"}, Parents: []int{0}, Roles: []string{"r"}}, {Nodes: []string{"{a}", "B"}, Parents: []int{0, 0}, Roles: []string{"", "r"}}, {Nodes: []string{"{a}", "B"}, Parents: []int{-1, 0}, Roles: []string{"", "s"}}, {Nodes: []string{"{a}", "B"}, Parents: []int{-1, 1}, Roles: []string{"", "r"}}, {Nodes: []string{"{a}", "C"}, Parents: []int{-1, 0}, Roles: []string{"", "s"}},
	} {
		if ok, e := genuine.Holds(m, f, p, nil); e != api.ErrArg || ok {
			t.Error(k, e)
		}
	}
	// The same child twice, and a forest without one of the individuals.
	twice := api.Forest{Nodes: []string{"{b}", "B", "B"}, Parents: []int{-1, 0, 0}, Roles: []string{"", "r", "r"}}
	if ok, e := genuine.Holds(m, twice, p, bind("?x={b}").Binds); e != api.OK || !ok {
		t.Error(ok, e)
	}
	if ok, e := genuine.Holds(m, twice, sample.Part("A(a)"), nil); e != api.OK || ok {
		t.Error(ok, e)
	}
}

// P23.4: a match is genuine exactly if it is one into the forest.
func TestForest(t *testing.T) {
	r := rand.New(rand.NewSource(1))
	pool := sample.Axioms("type a A. type b A. A sub some r B. B sub some r B. B sub some s A. A sub some s {b}. role r sub t. role s sub t. link a r b. link b s b. B sub some r {a}. A sub some s B. type b C. C sub some t C.")
	var checked, found int
	for range 800 {
		var l []api.Axiom
		for _, a := range pool {
			if r.Intn(5) < 2 {
				l = append(l, a)
			}
		}
		m, e := canon.Build(l)
		if e != api.OK {
			t.Fatal(e)
		}
		var p api.Part
		terms := []string{"?w", "?x", "?y", "?z", "a"}
		for range 1 + r.Intn(4) {
			x, y := terms[r.Intn(5)], terms[r.Intn(5)]
			p.Atoms = append(p.Atoms, api.Atom{Kind: api.RoleQ, Name: []string{"r", "s", "t"}[r.Intn(3)], X: x, Y: y})
		}
		names := query.Variables(p)
		if slices.ContainsFunc(p.Atoms, func(a api.Atom) bool { return a.X == "a" || a.Y == "a" }) {
			names = append(names, "a")
		}
		f, e := genuine.Unravel(m, len(m.Nodes)+len(names), 65536)
		if e != api.OK {
			continue
		}
		all, e := genuine.All(m, p, 65536)
		if e != api.OK {
			t.Fatal(e)
		}
		genuines := map[string]bool{}
		for _, x := range all {
			genuines[show(x)] = true
		}
		var try func(x api.Match)
		try = func(x api.Match) {
			if len(x.Binds) < len(names) {
				for _, n := range m.Nodes {
					try(api.Match{Binds: append(slices.Clone(x.Binds), api.Bind{Term: names[len(x.Binds)], Node: n})})
				}
				return
			}
			ok, e := genuine.Holds(m, f, p, x.Binds)
			check := genuine.Check(m, p, x)
			if e != api.OK || ok != (check == api.OK) || ok != genuines[show(x)] {
				t.Fatalf("%v\n%v\n%s: holds %v, %d", l, p, show(x), ok, check)
			}
			checked++
			if ok {
				found++
			}
		}
		if len(names) <= 3 {
			try(api.Match{})
		}
		more := api.Part{Atoms: append(slices.Clone(p.Atoms), p.Atoms[0])}
		more.Atoms[len(p.Atoms)].Name = "t"
		if l, _ := genuine.All(m, more, 65536); len(l) > len(all) {
			t.Fatal("more atoms have more matches", p)
		}
	}
	if found < 100 || checked < 1000 {
		t.Error(found, checked)
	}
}

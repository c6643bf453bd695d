package canon_test

import (
	"fmt"
	"math/rand"
	"reflect"
	"slices"
	"strconv"
	"strings"
	"testing"

	"veilstone/api"
	"veilstone/base"
	"veilstone/canon"
	"veilstone/entail"
	"veilstone/normal"
	"veilstone/sample"
	"veilstone/saturate"
	"veilstone/terms"
)

func sub(a, b string) api.Fact     { return api.Fact{Kind: api.SubF, A: a, B: b} }
func link(a, r, b string) api.Fact { return api.Fact{Kind: api.LinkF, A: a, R: r, B: b} }
func ranged(a, r string, lo, hi int) api.Fact {
	return api.Fact{Kind: api.RangeF, A: a, R: r, Lo: lo, Hi: hi}
}

func show(l []api.Fact) string {
	var s []string
	for _, f := range l {
		switch f.Kind {
		case api.SubF:
			s = append(s, f.A+":"+f.B)
		case api.LinkF:
			s = append(s, f.A+"-"+f.R+"-"+f.B)
		default:
			s = append(s, fmt.Sprint(f.A, f.R, f.Lo, f.Hi))
		}
	}
	return strings.Join(s, " ")
}

func build(t *testing.T, src string) api.Model {
	t.Helper()
	m, e := canon.Build(sample.Axioms(src))
	if e != api.OK {
		t.Fatal(src, e)
	}
	return m
}

// P22.1
func TestBuild(t *testing.T) {
	for _, x := range []struct{ src, nodes, direct, links, ranges, roles string }{
		{"", "", "", "", "", ""}, {"A sub some r B. type a A.", "{a} B", "{a}-r-B", "", "", "r:r"}, {"A sub some r B. B sub some s B. C sub some t A.", "", "", "", "", "r:r s:s t:t"},
		{"link a r b. role r sub s. chain s s s sub t. link b s c. link c r a. A sub some q {a}.", "{a} {b} {c}", "{b}-s-{c} {a}-r-{b} {c}-r-{a}", "", "", "q:q r:r r:s s:s t:t"},
		{"type b f in 1 to 5. type a f in 4 to 9. type a f in 2 to 6. type a some r f in 1 to 2. X sub f in 8 to 9.", "{a} {b} <f in 1 to 2>", "{a}-r-<f in 1 to 2>", "", "<f in 1 to 2>f1 2 {a}f2 6 {a}f4 6 {a}f4 9 {b}f1 5", "r:r"},
		{"reflexive r. type a A. A sub some s everything.", "{a} *", "{a}-s-*", "{a}-r-{a}", "", "r:r s:s"},
	} {
		m := build(t, x.src)
		links := x.links
		if strings.HasPrefix(x.src, "link a r b") {
			links = show(m.Links)
			for _, want := range []string{"{a}-r-{b}", "{a}-s-{b}", "{a}-t-{a}", "{a}-s.s-{c}"} {
				if !slices.Contains(strings.Fields(links), want) {
					t.Errorf("%s is missing in %s", want, links)
				}
			}
			x.direct = "{a}-r-{b} {b}-s-{c} {c}-r-{a}"
		}
		if got := []string{strings.Join(m.Nodes, " "), show(m.Direct), show(m.Links), show(m.Ranges), show(m.Roles)}; !slices.Equal(got, []string{x.nodes, x.direct, links, x.ranges, x.roles}) {
			t.Errorf("%s:\n%q", x.src, got)
		}
	}
	for k, x := range []struct {
		l []api.Axiom
		e api.Errno
	}{{append(sample.Axioms("chain s r s sub r."), api.Axiom{}), api.ErrAxiom}, {slices.Repeat(sample.Axioms("chain s r s sub r."), 1025), api.ErrCircle}, {slices.Repeat(sample.Axioms("A sub B."), 1025), api.ErrLimit}, {big(), api.ErrLimit}, {sample.Axioms("B sub A. private reflexive r. A sub B. A sub B."), api.OK}} {
		if m, e := canon.Build(x.l); e != x.e || e != api.OK && !reflect.DeepEqual(m, api.Model{}) {
			t.Error(k, e)
		}
	}
}

func big() (l []api.Axiom) {
	for i := range 300 {
		l = append(l, sample.Axiom("type a"+strconv.Itoa(i)+" A"), sample.Axiom("A sub some r {a"+strconv.Itoa(i)+"}"))
	}
	return l
}

// P22.2
func TestQuestions(t *testing.T) {
	m := api.Model{
		Types:  []api.Fact{sub("{a}", "A"), {Kind: 1, A: "B", B: "C", R: "r"}, link("x", "", "y")},
		Links:  []api.Fact{link("{a}", "s", "{b}"), {Kind: 2, A: "{a}", R: "z", B: "{b}", Lo: 1}},
		Direct: []api.Fact{link("{a}", "r", "B"), link("B", "r", "{a}"), link("{a}", "q", "{b}"), {Kind: 2, A: "B", R: "z", B: "B", Hi: 1}},
		Ranges: []api.Fact{ranged("B", "f", 2, 4), {Kind: 3, A: "B", B: "x", R: "g", Lo: 2, Hi: 4}},
		Roles:  []api.Fact{sub("r", "t"), {Kind: 1, A: "r", B: "w", Lo: 1}},
	}
	for x, want := range map[[2]string]bool{{"{a}", "A"}: true, {"A", "{a}"}: false, {"B", "C"}: false, {"x", "y"}: false, {"", ""}: false} {
		if canon.Concept(m, x[0], x[1]) != want {
			t.Error(x)
		}
	}
	for x, want := range map[[3]string]bool{{"{a}", "s", "{b}"}: true, {"{a}", "q", "{b}"}: false, {"{a}", "z", "{b}"}: false, {"{a}", "r", "B"}: true, {"{a}", "t", "B"}: true, {"{a}", "w", "B"}: false, {"{a}", "s", "B"}: false, {"B", "t", "{a}"}: true, {"B", "z", "B"}: false, {"B", "t", "B"}: false, {"t", "r", "{a}"}: false} {
		if canon.Role(m, x[0], x[1], x[2]) != want {
			t.Error(x)
		}
	}
	for x, want := range map[api.Fact]bool{ranged("B", "f", 2, 4): true, ranged("B", "f", 1, 9): true, ranged("B", "f", 3, 4): false, ranged("B", "f", 2, 3): false, ranged("A", "f", 2, 4): false, ranged("B", "g", 0, 9): false, ranged("B", "f", 9, 0): false} {
		if canon.Range(m, x.A, x.R, api.Interval{Lo: x.Lo, Hi: x.Hi}) != want {
			t.Error(x)
		}
	}
	for node, want := range map[string]bool{"{a}": false, "A": true, "": true, "{": false, "<{a}>": true} {
		if canon.Nameless(node) != want {
			t.Error(node)
		}
	}
	if canon.Concept(api.Model{}, "A", "A") || canon.Role(api.Model{}, "A", "r", "A") {
		t.Error("the empty model")
	}
}

// P22.2
func TestCheck(t *testing.T) {
	good := func() api.Model {
		return api.Model{Nodes: []string{"{a}", "{b}", "A", "B"}, Types: []api.Fact{sub("{a}", "A"), sub("B", "X")}, Links: []api.Fact{link("{a}", "r.s", "{b}"), link("{b}", "r", "{a}")}, Direct: []api.Fact{link("B", "r", "{a}"), link("{a}", "r", "B")}, Ranges: []api.Fact{ranged("A", "f", -1<<40, 1<<40)}, Roles: []api.Fact{sub("r", "r"), sub("r", "s")}}
	}
	order := func(l []api.Fact) {
		slices.SortFunc(l, func(f, g api.Fact) int { return strings.Compare(f.A+"|"+f.B, g.A+"|"+g.B) })
	}
	if m := good(); func() bool { order(m.Types); order(m.Direct); return canon.Check(m) != api.OK }() {
		t.Error("a good model")
	}
	for k, spoil := range []func(m *api.Model){
		func(m *api.Model) { m.Nodes[1] = "{a}" }, func(m *api.Model) { m.Nodes[0], m.Nodes[1] = "{b}", "{a}" }, func(m *api.Model) { m.Nodes = []string{"A", "B", "{a}", "{b}"} }, func(m *api.Model) { m.Nodes = []string{"{a}", "{b}", "", "A", "B"} }, func(m *api.Model) { m.Nodes[3] = "A" },
		func(m *api.Model) { m.Types[0].A = "Z" }, func(m *api.Model) { m.Types[0].B = "" }, func(m *api.Model) { m.Types[0].Kind = 2 }, func(m *api.Model) { m.Types[0].R = "r" }, func(m *api.Model) { m.Types[0].Hi = 1 }, func(m *api.Model) { m.Types[1] = m.Types[0] }, func(m *api.Model) { m.Types[0], m.Types[1] = m.Types[1], m.Types[0] },
		func(m *api.Model) { m.Links[0].A = "{c}" }, func(m *api.Model) { m.Links[0].B = "A" }, func(m *api.Model) { m.Links[1].A = "A" }, func(m *api.Model) { m.Links[0].R = "" }, func(m *api.Model) { m.Links[0].Lo = 1 }, func(m *api.Model) { m.Links[0].Kind = 3 }, func(m *api.Model) { m.Links[0], m.Links[1] = m.Links[1], m.Links[0] },
		func(m *api.Model) { m.Direct[0].A = "Z" }, func(m *api.Model) { m.Direct[1].B = "Z" }, func(m *api.Model) { m.Direct[0].R = "" }, func(m *api.Model) { m.Direct[0].Hi = 2 }, func(m *api.Model) { m.Direct[1] = m.Direct[0] },
		func(m *api.Model) { m.Ranges[0].A = "Z" }, func(m *api.Model) { m.Ranges[0].R = "" }, func(m *api.Model) { m.Ranges[0].B = "A" }, func(m *api.Model) { m.Ranges[0].Lo-- }, func(m *api.Model) { m.Ranges[0].Hi++ }, func(m *api.Model) { m.Ranges[0].Lo, m.Ranges[0].Hi = 2, 1 }, func(m *api.Model) { m.Ranges[0].Kind = 2 },
		func(m *api.Model) { m.Roles[0].A = "" }, func(m *api.Model) { m.Roles[0].B = "" }, func(m *api.Model) { m.Roles[0].R = "r" }, func(m *api.Model) { m.Roles[1] = m.Roles[0] }, func(m *api.Model) { m.Roles[1].Kind = 2 },
	} {
		m := good()
		order(m.Types)
		order(m.Direct)
		spoil(&m)
		if e := canon.Check(m); e != api.ErrArg {
			t.Error(k, e)
		}
	}
	if e := canon.Check(api.Model{}); e != api.OK {
		t.Error(e)
	}
}

// P22.1 and P22.3: the definition, for random axioms.
func TestRandom(t *testing.T) {
	r := rand.New(rand.NewSource(1))
	pool := sample.Axioms("A sub some r B. B sub some s A. A sub C. type a A. type b B and C. link a r b. link b q a. role r sub s. role s sub t. chain q q sub u. B sub some q {a}. C sub f in 1 to 3. some r B sub D. D sub some u everything. {b} sub some v (A and D). domain t E. E sub f in 2 to 9.")
	for range 300 {
		var l []api.Axiom
		for _, a := range pool {
			if r.Intn(2) == 0 {
				l = append(l, a)
			}
		}
		m, e := canon.Build(l)
		if e != api.OK || canon.Check(m) != api.OK {
			t.Fatal(l, e)
		}
		p, _ := normal.Pieces(l)
		c, _ := saturate.All(p, api.MaxBudget)
		isDirect := func(f api.Fact) bool {
			return f.Kind == api.LinkF && slices.ContainsFunc(p, func(x api.Piece) bool {
				return x.Kind == api.SomeP && x.R == f.R && x.C == f.B && slices.Contains(c.Facts, sub(f.A, x.A))
			})
		}
		var nodes []string
		for _, a := range c.Atoms {
			if strings.HasPrefix(a, "{") {
				nodes = append(nodes, a)
			}
		}
		for i := 0; i < len(nodes); i++ {
			for _, f := range c.Facts {
				if f.A == nodes[i] && isDirect(f) && !slices.Contains(nodes, f.B) {
					nodes = append(nodes, f.B)
				}
			}
		}
		if len(nodes) != len(m.Nodes) {
			t.Fatal(l, nodes, m.Nodes)
		}
		var types, links, direct, ranges []api.Fact
		for _, f := range c.Facts {
			in := slices.Contains(nodes, f.A)
			switch {
			case in && f.Kind == api.SubF:
				types = append(types, f)
			case in && f.Kind == api.RangeF:
				ranges = append(ranges, f)
			case in && isDirect(f):
				direct = append(direct, f)
			}
			if f.Kind == api.LinkF && strings.HasPrefix(f.A, "{") && strings.HasPrefix(f.B, "{") {
				links = append(links, f)
			}
		}
		if !slices.Equal(types, m.Types) || !slices.Equal(links, m.Links) || !slices.Equal(direct, m.Direct) || !slices.Equal(ranges, m.Ranges) {
			t.Fatal(l, m)
		}
		mixed := slices.Clone(l)
		r.Shuffle(len(mixed), func(i, k int) { mixed[i], mixed[k] = mixed[k], mixed[i] })
		if again, _ := canon.Build(mixed); !reflect.DeepEqual(again, m) {
			t.Fatal("the order matters", l)
		}
		more, _ := canon.Build(append(mixed, pool[r.Intn(len(pool))]))
		for _, x := range [][2][]api.Fact{{m.Types, more.Types}, {m.Links, more.Links}, {m.Direct, more.Direct}, {m.Ranges, more.Ranges}, {m.Roles, more.Roles}} {
			for _, f := range x[0] {
				if !slices.Contains(x[1], f) {
					t.Fatal("lost", f)
				}
			}
		}
		b, _ := base.New(l)
		n, _ := terms.Vocabulary(l)
		if ok, _ := entail.Consistent(b); ok {
			for _, i := range n.Individuals {
				for _, name := range n.Concepts {
					if ok, _ := entail.Entails(b, sample.Axiom("type "+i+" "+name)); ok != canon.Concept(m, "{"+i+"}", name) {
						t.Fatal(l, i, name)
					}
				}
			}
		}
	}
}

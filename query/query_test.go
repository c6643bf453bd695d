package query_test

import (
	"math/rand"
	"slices"
	"strconv"
	"strings"
	"testing"

	"veilstone/api"
	"veilstone/query"
	"veilstone/sample"
)

func one(told []string, l ...api.Atom) api.Query {
	return api.Query{Told: told, Parts: []api.Part{{Atoms: l}}}
}

func concept(name, x string) api.Atom { return api.Atom{Kind: api.ConceptQ, Name: name, X: x} }
func role(name, x, y string) api.Atom { return api.Atom{Kind: api.RoleQ, Name: name, X: x, Y: y} }
func ranged(name, x string, lo, hi int) api.Atom {
	return api.Atom{Kind: api.RangeQ, Name: name, X: x, Lo: lo, Hi: hi}
}

func isZero(q api.Query) bool { return q.Told == nil && q.Parts == nil }

// variables returns a part with n variables.
func variables(n int) (p api.Part) {
	for i := range n {
		p.Atoms = append(p.Atoms, concept("A", "?x"+strconv.Itoa(i)))
	}
	return p
}

// P21.1
func TestCheck(t *testing.T) {
	a := concept("A", "?x")
	full := api.Part{Atoms: slices.Repeat([]api.Atom{a}, 12)}
	told := []string{"?x", "?y", "?z"}
	all := []api.Atom{concept("A", "?x"), concept("A", "?y"), concept("A", "?z")}
	long := "?" + strings.Repeat("a", 16)
	for k, x := range []struct {
		q api.Query
		e api.Errno
	}{
		{one(nil, a), api.OK}, {one([]string{"?x"}, a), api.OK}, {one(nil, concept("p:A", "a")), api.OK}, {one(nil, role("r", "?x", "p:a")), api.OK}, {one(nil, ranged("f", "?x", -1<<40, 1<<40)), api.OK}, {one(told, all...), api.OK}, {api.Query{Parts: []api.Part{full, full, full, full}}, api.OK}, {api.Query{Parts: []api.Part{variables(8)}}, api.OK}, {one([]string{long}, concept("A", long)), api.OK},
		{api.Query{}, api.ErrQuery}, {api.Query{Parts: slices.Repeat([]api.Part{full}, 5)}, api.ErrQuery}, {one(nil), api.ErrQuery}, {api.Query{Parts: []api.Part{{Atoms: []api.Atom{concept("3", "?x")}}, {}}}, api.ErrQuery}, {one(nil, slices.Repeat([]api.Atom{a}, 13)...), api.ErrQuery}, {one(append(told, "?w"), all...), api.ErrQuery}, {api.Query{Parts: []api.Part{variables(9)}}, api.ErrQuery},
		{one(nil, api.Atom{Name: "A", X: "?x"}), api.ErrQuery}, {one(nil, api.Atom{Kind: 4, Name: "A", X: "?x"}), api.ErrQuery}, {one(nil, api.Atom{Kind: -1}), api.ErrQuery}, {one(nil, api.Atom{Kind: 1, Name: "3", X: "?x", Y: "?y"}), api.ErrQuery}, {one(nil, api.Atom{Kind: 3, Name: "f", X: "?x", Y: "?y"}), api.ErrQuery}, {one(nil, api.Atom{Kind: 1, Name: "A", X: "?x", Lo: 1, Hi: 1}), api.ErrQuery}, {one(nil, api.Atom{Kind: 2, Name: "r", X: "?x", Y: "?x", Hi: 1}), api.ErrQuery},
		{one(nil, ranged("f", "?x", 2, 1)), api.ErrQuery}, {one(nil, ranged("f", "?x", -1<<40-1, 1)), api.ErrQuery}, {one(nil, ranged("f", "3", 1, 1<<40+1)), api.ErrQuery},
		{one(nil, concept("", "?x")), api.ErrName}, {one(nil, concept("_A", "?x")), api.ErrName}, {one(nil, concept("and", "?x")), api.ErrName}, {one(nil, concept("A", "")), api.ErrName}, {one(nil, concept("A", "?")), api.ErrName}, {one(nil, concept("A", "?1")), api.ErrName}, {one(nil, concept("A", "?_x")), api.ErrName}, {one(nil, concept("A", "?a:b")), api.ErrName}, {one(nil, concept("A", long+"a")), api.ErrName}, {one(nil, concept("A", "_1_x")), api.ErrName}, {one(nil, role("r", "?x", "")), api.ErrName}, {one(nil, role("r", "?x", "_y")), api.ErrName}, {one(nil, concept("3", "?x"), api.Atom{}), api.ErrName}, {one(nil, api.Atom{}, concept("3", "?x")), api.ErrQuery},
		{one([]string{"x"}, a), api.ErrName}, {one([]string{"?x", "?x", "y"}, a), api.ErrName}, {one([]string{"?x", "?x"}, a), api.ErrQuery}, {one([]string{"?y"}, a), api.ErrQuery}, {api.Query{Told: []string{"?x"}, Parts: []api.Part{{Atoms: []api.Atom{a}}, {Atoms: []api.Atom{concept("A", "?y")}}}}, api.ErrQuery}, {one([]string{"?x"}, concept("A", "a")), api.ErrQuery},
	} {
		if e := query.Check(x.q, nil); e != x.e {
			t.Errorf("case %d: %d, want %d", k, e, x.e)
		}
	}
}

// P21.1
func TestCheckSimple(t *testing.T) {
	l := sample.Axioms("chain r r sub r. role r sub s. reflexive u. role q sub r. A sub some v B.")
	for src, want := range map[string]api.Errno{
		"select ?x where r(?x, ?y)": api.ErrSimple, "select ?x ?y where r(?x, ?y)": api.OK, "select where r(a, b)": api.OK, "select where r(a, ?x)": api.ErrSimple, "select where r(?x, a)": api.ErrSimple, "select ?x where s(?x, ?y)": api.ErrSimple, "select ?x where q(?x, ?y)": api.OK, "select ?x where u(?y, ?x)": api.ErrSimple, "select where v(?x, ?y)": api.OK, "select where w(?x, ?y)": api.OK, "select ?x where A(?x) or r(?x, a) and A(?y)": api.OK, "select ?x where A(?x) or r(?x, ?y)": api.ErrSimple,
	} {
		if e := query.Check(sample.Query(src), l); e != want {
			t.Errorf("%s: %d", src, e)
		}
	}
	bad := append(slices.Clone(l), api.Axiom{})
	if e := query.Check(sample.Query("select where r(?x, ?y)"), bad); e != api.ErrAxiom {
		t.Error(e)
	}
	if e := query.Check(api.Query{}, bad); e != api.ErrQuery {
		t.Error(e)
	}
}

// P21.2
func TestParsePrint(t *testing.T) {
	for src, want := range map[string]api.Query{
		"select where A(a)":                                          one(nil, concept("A", "a")),
		"select ?x where A(?x)":                                      one([]string{"?x"}, concept("A", "?x")),
		"select ?x ?y where r(?y, ?x)":                               one([]string{"?x", "?y"}, role("r", "?y", "?x")),
		"select ?x where A(?x) and f(?x) in 1 to 5 or r(a, ?x)":      {Told: []string{"?x"}, Parts: []api.Part{{Atoms: []api.Atom{concept("A", "?x"), ranged("f", "?x", 1, 5)}}, {Atoms: []api.Atom{role("r", "a", "?x")}}}},
		"select ?and where p:A(?and) and f(p:a) in -7 to 0 and B(b)": one([]string{"?and"}, concept("p:A", "?and"), ranged("f", "p:a", -7, 0), concept("B", "b")),
	} {
		q, at, e := query.Parse([]byte(src))
		b, e2 := query.Print(want)
		if e != api.OK || at != 0 || !equal(q, want) || string(b) != src || e2 != api.OK {
			t.Errorf("%s: %v, %d, %d, %s, %d", src, q, at, e, b, e2)
		}
	}
	q, _, e := query.Parse([]byte("select\t? x where\nA (? x ) # c\n"))
	if e != api.OK || !equal(q, one([]string{"?x"}, concept("A", "?x"))) {
		t.Error(q, e)
	}
	for _, x := range []struct {
		src string
		at  int
		e   api.Errno
	}{
		{"select ?x where A(a)", 0, api.ErrQuery}, {"select ?x where A(?x", 20, api.ErrSyntax}, {"select where A(_x)", 0, api.ErrName}, {"select where and(a)", 13, api.ErrSyntax}, {"", 0, api.ErrSyntax}, {"where A(a)", 0, api.ErrSyntax}, {"select x where A(a)", 7, api.ErrSyntax}, {"select ?x", 9, api.ErrSyntax}, {"select ?x:y where A(a)", 8, api.ErrSyntax}, {"select ?_y where A(a)", 8, api.ErrSyntax}, {"select ? where A(a)", 15, api.ErrSyntax}, {"select ?5 where A(a)", 8, api.ErrSyntax},
		{"select where", 12, api.ErrSyntax}, {"select where A", 14, api.ErrSyntax}, {"select where A a", 15, api.ErrSyntax}, {"select where A()", 15, api.ErrSyntax}, {"select where A(and)", 15, api.ErrSyntax}, {"select where r(a,)", 17, api.ErrSyntax}, {"select where r(a, b, c)", 19, api.ErrSyntax}, {"select where r(a, b) in 1 to 2", 21, api.ErrSyntax}, {"select where f(a) in x", 21, api.ErrSyntax}, {"select where f(a) in 1 2", 23, api.ErrSyntax}, {"select where f(a) in 1 to", 25, api.ErrSyntax}, {"select where f(a) in 2 to 1", 0, api.ErrQuery}, {"select where f(a) in 1 to 1099511627777", 0, api.ErrQuery},
		{"select where A(a) or", 20, api.ErrSyntax}, {"select where A(a) and", 21, api.ErrSyntax}, {"select where A(a) B(a)", 18, api.ErrSyntax}, {"select where A(a).", 17, api.ErrSyntax}, {"select where A(a) % where", 18, api.ErrToken}, {"%", 0, api.ErrToken}, {strings.Repeat(" ", api.MaxSource+1), 0, api.ErrLimit}, {"select ?x ?x where A(?x)", 0, api.ErrQuery}, {"select where p:and(a)", 0, api.ErrName},
	} {
		if q, at, e := query.Parse([]byte(x.src)); e != x.e || at != x.at || !isZero(q) {
			t.Errorf("%.60s: %d, %d, want %d, %d", x.src, at, e, x.at, x.e)
		}
	}
	if b, e := query.Print(api.Query{}); e != api.ErrQuery || b != nil {
		t.Error(e)
	}
	if b, e := query.Print(one(nil, concept("3", "a"))); e != api.ErrName || b != nil {
		t.Error(e)
	}
}

func equal(a, b api.Query) bool {
	return slices.Equal(a.Told, b.Told) && slices.EqualFunc(a.Parts, b.Parts, func(p, q api.Part) bool { return slices.Equal(p.Atoms, q.Atoms) })
}

// P21.3
func TestVariablesTidy(t *testing.T) {
	p := api.Part{Atoms: []api.Atom{{Kind: 77, X: "?b", Y: "?"}, concept("A", "?a"), role("r", "x", "?b"), concept("A", "?a"), {Kind: 1, Name: "A", X: "?a", Y: "?c"}, {}}}
	if l := query.Variables(p); !slices.Equal(l, []string{"?", "?a", "?b", "?c"}) {
		t.Error(l)
	}
	want := []api.Atom{{}, concept("A", "?a"), {Kind: 1, Name: "A", X: "?a", Y: "?c"}, role("r", "x", "?b"), {Kind: 77, X: "?b", Y: "?"}}
	if x := query.Tidy(p); !slices.Equal(x.Atoms, want) || p.Atoms[0].Kind != 77 {
		t.Error(x)
	}
	sorted := api.Part{Atoms: []api.Atom{concept("A", "?b"), concept("B", "?a"), role("r", "?a", "?b"), role("r", "?b", "?a"), ranged("f", "?a", 1, 2), ranged("f", "?a", 1, 3), ranged("f", "?a", 2, 2)}}
	if x := query.Tidy(api.Part{Atoms: slices.Concat(sorted.Atoms[3:], sorted.Atoms)}); !slices.Equal(x.Atoms, sorted.Atoms) {
		t.Error(x)
	}
	if len(query.Variables(api.Part{})) != 0 || len(query.Tidy(api.Part{}).Atoms) != 0 {
		t.Error("an empty part")
	}
}

// P21.3
func TestRename(t *testing.T) {
	for src, want := range map[string]string{
		"select ?a where r(?b, ?c) and A(?c) and r(?a, ?b)": "select ?t1 where A(?v1) and r(?t1, ?v2) and r(?v2, ?v1)", "select where A(a)": "select where A(a)", "select ?y ?x where r(?x, ?y) or r(?y, ?x) and A(?z)": "select ?t1 ?t2 where r(?t2, ?t1) or A(?v1) and r(?t1, ?t2)", "select where A(?t1) and B(?v2) and A(?t1)": "select where A(?v1) and B(?v2)", "select where r(?x, a) and r(a, ?y)": "select where r(?v1, a) and r(a, ?v2)",
	} {
		q, e := query.Rename(sample.Query(src))
		b, _ := query.Print(q)
		if e != api.OK || string(b) != want {
			t.Errorf("%s: %s, %d", src, b, e)
		}
	}
	if q, e := query.Rename(api.Query{}); e != api.ErrQuery || !isZero(q) {
		t.Error(e)
	}
	// Eight variables.
	var l []api.Atom
	for i := range 8 {
		l = append(l, role("r", "?x"+strconv.Itoa(i), "?x"+strconv.Itoa((i+3)%8)))
	}
	q, e := query.Rename(one(nil, l...))
	b, _ := query.Print(q)
	if e != api.OK || !strings.HasPrefix(string(b), "select where r(?v1, ?v2) and r(?v2, ?v3) and r(?v3, ?v4)") {
		t.Errorf("%s, %d", b, e)
	}
}

// P21.3
func TestInstance(t *testing.T) {
	q := sample.Query("select ?x ?z where r(?x, ?y) and A(?x) and A(?z) or B(?z) and B(?x)")
	for k, x := range []struct {
		t    api.Told
		want string
		e    api.Errno
	}{
		{api.Told{Tuple: []string{"a", "b"}}, "A(a) and A(b) and r(a, ?y)", api.OK}, {api.Told{Tuple: []string{"a", "a"}}, "A(a) and r(a, ?y)", api.OK}, {api.Told{Part: 1, Tuple: []string{"p:b", "a"}}, "B(a) and B(p:b)", api.OK}, {api.Told{Part: 2, Tuple: []string{"a", "b"}}, "", api.ErrArg}, {api.Told{Part: -1, Tuple: []string{"a", "b"}}, "", api.ErrArg}, {api.Told{Tuple: []string{"a"}}, "", api.ErrArg}, {api.Told{Tuple: []string{"a", "b", "c"}}, "", api.ErrArg}, {api.Told{Tuple: []string{"a", "_b"}}, "", api.ErrArg}, {api.Told{Tuple: []string{"?x", "b"}}, "", api.ErrArg}, {api.Told{Tuple: []string{"", "b"}}, "", api.ErrArg},
	} {
		p, e := query.Instance(q, x.t)
		if e != x.e || e != api.OK && p.Atoms != nil || e == api.OK && !slices.Equal(p.Atoms, sample.Part(x.want).Atoms) {
			t.Error(k, p, e)
		}
	}
	if p, e := query.Instance(api.Query{}, api.Told{Part: 9}); e != api.ErrQuery || p.Atoms != nil {
		t.Error(e)
	}
}

// least finds the canonical form of a part by trying all names.
func least(p api.Part, told []string) (best api.Part) {
	var free []string
	for _, v := range query.Variables(p) {
		if !slices.Contains(told, v) {
			free = append(free, v)
		}
	}
	var try func(names map[string]string)
	try = func(names map[string]string) {
		if len(names) < len(told)+len(free) {
			v := free[len(names)-len(told)]
			for i := range free {
				n := "?v" + strconv.Itoa(i+1)
				used := false
				for _, m := range names {
					used = used || m == n
				}
				if !used {
					names[v] = n
					try(names)
					delete(names, v)
				}
			}
			return
		}
		var x api.Part
		for _, a := range p.Atoms {
			if n, ok := names[a.X]; ok {
				a.X = n
			}
			if n, ok := names[a.Y]; ok {
				a.Y = n
			}
			x.Atoms = append(x.Atoms, a)
		}
		x = query.Tidy(x)
		if best.Atoms == nil || less(x, best) {
			best = x
		}
	}
	names := map[string]string{}
	for i, v := range told {
		names[v] = "?t" + strconv.Itoa(i+1)
	}
	try(names)
	return best
}

func less(p, q api.Part) bool {
	for i, a := range p.Atoms {
		if i >= len(q.Atoms) {
			return false
		}
		if b := q.Atoms[i]; a != b {
			return query.Tidy(api.Part{Atoms: []api.Atom{a, b}}).Atoms[0] == a
		}
	}
	return len(p.Atoms) < len(q.Atoms)
}

// P21.3 and P21.4
func TestConsequences(t *testing.T) {
	r := rand.New(rand.NewSource(1))
	names := []string{"?a", "?b", "?c", "?x", "a", "b"}
	for range 1500 {
		var p api.Part
		for range 1 + r.Intn(6) {
			x, y := names[r.Intn(len(names))], names[r.Intn(len(names))]
			p.Atoms = append(p.Atoms, []api.Atom{concept("A", x), role("r", x, y), role("s", x, y), ranged("f", x, r.Intn(2), 2)}[r.Intn(4)])
		}
		var told []string
		if v := query.Variables(p); len(v) > 1 {
			told = v[:1]
		}
		q := api.Query{Told: told, Parts: []api.Part{p}}
		b, e := query.Print(q)
		back, _, e2 := query.Parse(b)
		if e != api.OK || e2 != api.OK || !equal(q, back) {
			t.Fatal(q, back)
		}
		x, e := query.Rename(q)
		if want := least(p, told); e != api.OK || !slices.Equal(x.Parts[0].Atoms, want.Atoms) || query.Check(x, nil) != api.OK {
			t.Fatalf("%s: %v, want %v", b, x, want)
		}
		twice, _ := query.Rename(x)
		mixed := api.Part{Atoms: slices.Concat(p.Atoms, p.Atoms[:1])}
		r.Shuffle(len(mixed.Atoms), func(i, k int) { mixed.Atoms[i], mixed.Atoms[k] = mixed.Atoms[k], mixed.Atoms[i] })
		if !slices.Equal(query.Tidy(mixed).Atoms, query.Tidy(p).Atoms) {
			t.Fatal("Tidy", p, mixed)
		}
		other := strings.NewReplacer("?a", "?q", "?b", "?a", "?c", "?t1", "?x", "?v1")
		for i, a := range mixed.Atoms {
			mixed.Atoms[i].X, mixed.Atoms[i].Y = other.Replace(a.X), other.Replace(a.Y)
		}
		toldToo := slices.Clone(told)
		for i, v := range told {
			toldToo[i] = other.Replace(v)
		}
		renamed, _ := query.Rename(api.Query{Told: toldToo, Parts: []api.Part{mixed}})
		if !equal(x, twice) || !equal(x, renamed) {
			t.Fatal("Rename", x, twice, renamed)
		}
		tuple := slices.Repeat([]string{"c"}, len(told))
		y, e := query.Instance(q, api.Told{Tuple: tuple})
		if e != api.OK || query.Check(api.Query{Parts: []api.Part{y}}, nil) != api.OK {
			t.Fatal("Instance", y, e)
		}
		for _, v := range told {
			if slices.Contains(query.Variables(y), v) {
				t.Fatal("a told variable", y)
			}
		}
	}
}

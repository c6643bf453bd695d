package freeze_test

import (
	"math/rand"
	"slices"
	"strconv"
	"strings"
	"testing"

	"veilstone/answer"
	"veilstone/api"
	"veilstone/base"
	"veilstone/entail"
	"veilstone/freeze"
	"veilstone/printer"
	"veilstone/sample"
	"veilstone/syntax"
	"veilstone/terms"
)

// P36.1
func TestName(t *testing.T) {
	for _, x := range []struct {
		no       int
		variable string
		want     string
	}{{3, "?x", "_3_x"}, {1024, "?a_1", "_1024_a_1"}, {1, "?" + strings.Repeat("a", 21), "_1_" + strings.Repeat("a", 21)}, {1, "?" + strings.Repeat("a", 22), ""}, {10, "?" + strings.Repeat("a", 21), ""}, {0, "?x", ""}, {1025, "?x", ""}, {-1, "?x", ""}, {1, "x", ""}, {1, "?", ""}, {1, "", ""}, {1, "?1", ""}, {1, "?_x", ""}, {1, "?a:b", ""}, {1, "?x ", ""}, {1, "??x", ""}} {
		s, e := freeze.Name(x.no, x.variable)
		if s != x.want || (e == api.OK) != (x.want != "") || e != api.OK && e != api.ErrArg {
			t.Error(x, s, e)
		}
	}
	for name, want := range map[string]bool{"_3_x": true, "_1024_a_1": true, "_1025_x": false, "_03_x": false, "_0_x": false, "_x": false, "a": false, "": false, "_": false, "_3": false, "_3_": false, "_3_1": false, "_3__x": false, "_+3_x": false, "_-3_x": false, "_1_" + strings.Repeat("a", 21): true, "_1_" + strings.Repeat("a", 22): false, "3_x": false, "_3_x:y": false, "__3_x": false, "_3_x_": true} {
		if freeze.Fresh(name) != want {
			t.Error(name)
		}
	}
}

func entry(no int, part string) api.Entry { return api.Entry{No: no, Part: sample.Part(part)} }

func show(l []api.Axiom) string {
	var s []string
	for _, a := range l {
		x, _ := printer.Axiom(a)
		s = append(s, x)
	}
	return strings.Join(s, "; ")
}

// P36.2
func TestAxioms(t *testing.T) {
	long := "?" + strings.Repeat("a", 16)
	for k, x := range []struct {
		x    api.Entry
		want string
		e    api.Errno
	}{
		{entry(2, "A(?x) and r(a, ?x)"), "type _2_x A; link a r _2_x", api.OK}, {entry(1024, "r(?x, ?y) and r(?y, ?x) and r(?x, ?y)"), "link _1024_x r _1024_y; link _1024_y r _1024_x", api.OK}, {entry(1, "f(?x) in -1 to 5 and B(b) and A(b)"), "type b A; type b B; type _1_x f in -1 to 5", api.OK}, {entry(1, "A("+long+")"), "type _1_" + long[1:] + " A", api.OK},
		{api.Entry{No: 0, Part: sample.Part("A(a)")}, "", api.ErrArg}, {api.Entry{No: 1025}, "", api.ErrArg}, {api.Entry{No: 1}, "", api.ErrQuery}, {api.Entry{No: 1, Part: api.Part{Atoms: []api.Atom{{Kind: 1, Name: "_A", X: "a"}}}}, "", api.ErrName},
	} {
		l, e := freeze.Axioms(x.x)
		if e != x.e || show(l) != x.want {
			t.Error(k, show(l), e)
		}
		if slices.ContainsFunc(l, func(a api.Axiom) bool { return a.Open }) {
			t.Error(k, "open")
		}
	}
}

// P36.2
func TestBase(t *testing.T) {
	open := sample.Base("open A sub B. role r sub s.")
	b, e := freeze.Base(open, []api.Entry{entry(1, "A(?x)"), entry(7, "r(?x, a) and A(a)")})
	want, _ := base.New(append(sample.Axioms("open A sub B. role r sub s. type a A."), api.Axiom{Kind: api.TypeA, A: "_1_x", Right: sample.Concept("A")}, api.Axiom{Kind: api.LinkA, A: "_7_x", Role: "r", B: "a"}))
	if e != api.OK || !base.Same(b, want) {
		t.Error(show(b.Axioms), e)
	}
	if b, e := freeze.Base(api.Base{}, nil); e != api.OK || len(b.Axioms) != 0 {
		t.Error(e)
	}
	// An entry does not make an open axiom private.
	if b, e := freeze.Base(sample.Base("open type a A."), []api.Entry{entry(1, "A(a)")}); e != api.OK || show(b.Axioms) != "open type a A" {
		t.Error(show(b.Axioms), e)
	}
	reserved := api.Base{Axioms: []api.Axiom{{Kind: api.TypeA, Open: true, A: "_1_x", Right: sample.Concept("A")}}}
	var many []api.Entry
	for i := range 1024 {
		many = append(many, entry(i+1, "A(a"+strconv.Itoa(i)+")"))
	}
	for k, x := range []struct {
		open api.Base
		l    []api.Entry
		e    api.Errno
	}{
		{api.Base{Axioms: sample.Axioms("A sub A. A sub A.")}, []api.Entry{{}, {}}, api.ErrOrder}, {sample.Base("open A sub B. C sub D."), nil, api.ErrArg}, {reserved, nil, api.ErrArg}, {open, []api.Entry{entry(1, "A(a)"), entry(1, "B(a)")}, api.ErrArg}, {open, []api.Entry{entry(2, "A(a)"), {No: 1}}, api.ErrArg}, {open, []api.Entry{entry(2, "A(a)"), {No: 3}, {No: 1025}}, api.ErrQuery}, {open, []api.Entry{{No: 0}}, api.ErrArg}, {api.Base{}, many, api.OK}, {sample.Base("open type a7 A."), many, api.OK}, {sample.Base("open type b A."), many, api.ErrLimit},
	} {
		if b, e := freeze.Base(x.open, x.l); e != x.e || e != api.OK && b.Axioms != nil {
			t.Error(k, e)
		}
	}
}

// P36.3
func TestConsequences(t *testing.T) {
	seen := map[string]bool{}
	for _, no := range []int{1, 2, 11, 12, 112, 1024} {
		for _, v := range []string{"?x", "?x_1", "?a", "?1", "?a1", "?A"} {
			s, e := freeze.Name(no, v)
			if e != api.OK {
				continue
			}
			if seen[s] || terms.CheckName(s) != api.OK || !freeze.Fresh(s) {
				t.Error(no, v, s)
			}
			seen[s] = true
			if _, _, e := syntax.Axiom([]byte("type " + s + " A")); e != api.ErrName {
				t.Error(s, e)
			}
		}
	}
	r := rand.New(rand.NewSource(1))
	pool := sample.Axioms("open A sub B. open B sub some r A. open A disjoint C. role r sub s. open some s A sub D. open C sub nothing. open type a A.")
	parts := []string{"A(?x)", "r(?x, ?y) and B(?y)", "C(a)", "D(b) and r(b, a)", "s(a, ?x) and s(?x, ?x)", "A(a)"}
	for range 200 {
		var l []api.Axiom
		for _, a := range pool {
			if r.Intn(2) == 0 {
				l = append(l, a)
			}
		}
		open, _ := base.New(l)
		var entries []api.Entry
		for i, p := range parts {
			if r.Intn(2) == 0 {
				entries = append(entries, entry(i+1, p))
			}
		}
		b, e := freeze.Base(open, entries)
		if e != api.OK || !base.Same(base.Open(b), open) {
			t.Fatal(open, entries, e)
		}
		if ok, _ := entail.Consistent(b); ok {
			for _, x := range entries {
				if ok, e := answer.Holds(b, x.Part); !ok || e != api.OK {
					t.Fatal(show(b.Axioms), x, e)
				}
			}
		}
		if len(entries) > 0 {
			fewer, _ := freeze.Base(open, entries[1:])
			for _, a := range pool {
				x, _ := entail.Entails(fewer, a)
				if y, _ := entail.Entails(b, a); x && !y {
					t.Fatal("lost", a)
				}
			}
			first, _ := freeze.Axioms(entries[0])
			n, _ := terms.Vocabulary(first)
			for _, other := range entries[1:] {
				l, _ := freeze.Axioms(other)
				m, _ := terms.Vocabulary(l)
				for _, i := range n.Individuals {
					if freeze.Fresh(i) && slices.Contains(m.Individuals, i) {
						t.Fatal("in common", i)
					}
				}
			}
		}
	}
}

package carry_test

import (
	"fmt"
	"math/rand"
	"slices"
	"strconv"
	"strings"
	"testing"

	"veilstone/api"
	"veilstone/base"
	"veilstone/carry"
	"veilstone/mapping"
	"veilstone/printer"
	"veilstone/rename"
	"veilstone/sample"
	"veilstone/terms"
)

// list parses "X>Y r:x>y": renamings of concepts, or of roles.
func list(s string) (l []api.Renaming) {
	for _, f := range strings.Fields(s) {
		kind := api.ConceptN
		if g, ok := strings.CutPrefix(f, "r:"); ok {
			kind, f = api.RoleN, g
		}
		from, to, _ := strings.Cut(f, ">")
		l = append(l, api.Renaming{Kind: kind, Old: from, New: to})
	}
	return l
}

func show(l []api.Axiom) string {
	var s []string
	for _, a := range l {
		x, _ := printer.Axiom(a)
		s = append(s, x)
	}
	return strings.Join(s, "; ")
}

func maps(s string) []api.Axiom {
	b, e := base.New(sample.Axioms(s))
	if e != api.OK {
		panic(s)
	}
	return b.Axioms
}

// P35.1
func TestAxioms(t *testing.T) {
	for _, x := range []struct {
		maps, renamings, want string
		e                     api.Errno
	}{
		{"A sub p:X.", "X>Y", "A sub p:Y", api.OK}, {"A sub p:X.", "", "A sub p:X", api.OK}, {"X sub p:X and some p:x p:X. role x sub p:x.", "X>Y r:x>y", "role x sub p:y; X sub p:Y and some p:y p:Y", api.OK}, {"A sub p:X. open A sub p:Y.", "X>Y Y>Z", "A sub p:Y; open A sub p:Z", api.OK}, {"open A sub p:X. A sub p:X and p:Y.", "X>Y Y>X", "open A sub p:Y; A sub p:X and p:Y", api.OK}, {"A sub p:X and p:Z. A sub p:Y.", "", "A sub p:Y; A sub p:X and p:Z", api.OK},
		{"A sub p:X. B sub p:X.", "X>A", "A sub p:A; B sub p:A", api.OK}, {"A sub p:X.", "X>q:Y", "", api.ErrName}, {"A sub p:X.", "X>Xaaaaaaaaaaaaaaaaaaaaaa", "", api.ErrName}, {"A sub p:X.", "X>X", "", api.ErrRename}, {"A sub p:X.", "r:X>Y", "A sub p:X", api.OK},
	} {
		if y, e := carry.Axioms(api.Alignment{Name: "and", Axioms: maps(x.maps)}, list(x.renamings)); e != x.e || show(y) != x.want {
			t.Errorf("%v: %s, %d", x, show(y), e)
		}
	}
	// Renaming may make mappings alike; the one that remains is open if one of them is.
	alike := api.Alignment{Axioms: maps("open A sub p:X. A sub p:X and p:Y.")}
	if y, e := carry.Axioms(alike, list("Y>X")); e != api.OK || show(y) != "open A sub p:X" {
		t.Error(show(y), e)
	}
	for k, m := range [][]api.Axiom{nil, sample.Axioms("A sub B."), sample.Axioms("B sub p:X. A sub p:X."), {{}}} {
		if y, e := carry.Axioms(api.Alignment{Axioms: m}, list("X>X")); e != api.ErrMapping || y != nil {
			t.Error(k, e)
		}
	}
	secret := api.Alignment{Axioms: sample.Axioms("private role r sub p:r.")}
	if y, e := carry.Axioms(secret, nil); e != api.OK || show(y) != "private role r sub p:r" {
		t.Error(show(y), e)
	}
}

// P35.2
func TestCarry(t *testing.T) {
	for _, x := range []struct {
		own, other, maps string
		kept, held       []int
	}{
		{"A sub C. B sub C.", "X sub Y.", "A sub p:X. p:Y sub B.", []int{0}, []int{1}}, {"A sub B.", "X sub Y.", "A sub p:X. A sub p:Z. B sub p:Y.", []int{0, 2}, []int{1}}, {"A sub B.", "X sub Y. role x sub y.", "A sub some p:x p:X. A sub some p:X p:x. role r sub p:x. role r sub p:z.", nil, nil}, {"", "X sub nothing.", "A sub p:X.", []int{0}, nil}, {"A sub B.", "X sub nothing.", "A sub p:X. B sub p:X.", nil, []int{0, 1}},
	} {
		own, other, m := sample.Base(x.own), sample.Base(x.other), maps(x.maps)
		kept, held, e := carry.Carry(own, other, m)
		if x.kept == nil && x.held == nil {
			if len(kept) != 2 || len(held) != 2 || e != api.OK {
				t.Error(kept, held, e)
			}
			for _, i := range kept {
				if s := show(m[i : i+1]); s != "A sub some p:x p:X" && s != "role r sub p:x" {
					t.Error(s)
				}
			}
			continue
		}
		if e != api.OK || !slices.Equal(kept, x.kept) || !slices.Equal(held, x.held) {
			t.Errorf("%v: %v, %v, %d", x, kept, held, e)
		}
	}
	bad := api.Base{Axioms: sample.Axioms("B sub A. A sub B.")}
	var concepts []api.Axiom
	for i := range 256 {
		concepts = append(concepts, sample.Axiom("A"+strconv.Itoa(i)+" sub A"))
	}
	big, _ := base.New(concepts)
	x := sample.Base("X sub Y.")
	for k, y := range []struct {
		own, other api.Base
		maps       []api.Axiom
		e          api.Errno
	}{{bad, api.Base{Axioms: []api.Axiom{{}}}, nil, api.ErrOrder}, {x, bad, nil, api.ErrOrder}, {x, x, nil, api.ErrMapping}, {x, sample.Base("p:X sub Y."), maps("A sub p:X."), api.ErrMapping}, {big, x, maps("A sub p:X."), api.ErrLimit}, {big, x, maps("A sub p:Z."), api.OK}} {
		kept, held, e := carry.Carry(y.own, y.other, y.maps)
		if e != y.e || len(kept) != 0 || (e == api.OK) != (len(held) == 1) {
			t.Error(k, kept, held, e)
		}
	}
	// Another error than ErrLimit holds a mapping back.
	kept, held, e := carry.Carry(sample.Base("chain r s sub t."), sample.Base("role t sub u."), sample.Axioms("role p:t sub s. role t sub p:t."))
	if e != api.OK || !slices.Equal(kept, []int{0}) || !slices.Equal(held, []int{1}) {
		t.Error(kept, held, e)
	}
}

// P35.3
func TestSince(t *testing.T) {
	l := []api.Other{{Name: "p", No: 1, Renamings: list("Q>Q")}, {Name: "q", No: 1}, {Name: "p", No: 2, Renamings: list("A>B")}, {Name: "q", No: 2, Renamings: list("A>A")}, {Name: "p", No: 3, Renamings: list("A>C B>D")}}
	for _, x := range []struct {
		l    []api.Other
		name string
		no   int
		want string
		e    api.Errno
	}{{nil, "p", 1, "", api.ErrVersion}, {l, "p", 4, "", api.ErrVersion}, {l, "z", 1, "", api.ErrVersion}, {l, "p", 3, "[]", api.OK}, {l, "p", 2, "[{1 A C} {1 B D}]", api.OK}, {l, "q", 1, "", api.ErrRename}, {l, "q", 2, "[]", api.OK}, {l[:3], "p", 1, "[{1 A B}]", api.OK}, {l, "p", 1, "", api.ErrRename}} {
		y, e := carry.Since(x.l, x.name, x.no)
		got := ""
		if e == api.OK {
			got = fmt.Sprint(y)
		}
		if e != x.e || got != x.want || e != api.OK && y != nil {
			t.Error(x.name, x.no, got, e)
		}
	}
	// All lists are validated before they are composed.
	wrong := []api.Other{{Name: "p", No: 1}, {Name: "p", No: 2, Renamings: list("A>B")}, {Name: "p", No: 3, Renamings: list("B>C")}, {Name: "p", No: 4, Renamings: make([]api.Renaming, 1025)}}
	if y, e := carry.Since(wrong, "p", 1); e != api.ErrLimit || y != nil {
		t.Error(e)
	}
	if y, e := carry.Since(wrong[:3], "p", 1); e != api.ErrRename || y != nil {
		t.Error(e)
	}
}

// P35.1, P35.2 and P35.4
func TestConsequences(t *testing.T) {
	r := rand.New(rand.NewSource(1))
	owns, others := sample.Axioms("A sub B. B sub C. C sub D. role r sub s."), sample.Axioms("X sub Y. Y sub Z. Z sub some q X. role q sub u.")
	pool := sample.Axioms("A sub p:X. p:Y sub B. C same p:Z. role r sub p:q. role p:u sub s. p:Z sub A. D sub some p:q p:X. A sub p:N.")
	pick := func(l []api.Axiom) api.Base {
		var x []api.Axiom
		for _, a := range l {
			if r.Intn(2) == 0 {
				x = append(x, a)
			}
		}
		b, _ := base.New(x)
		return b
	}
	alike := func(a, b api.Axiom) bool { return terms.CompareAxiom(a, b) == 0 && a.Open == b.Open }
	for range 80 {
		own, other, m := pick(owns), pick(others), pick(pool).Axioms
		if len(m) == 0 {
			continue
		}
		kept, held, e := carry.Carry(own, other, m)
		if e != api.OK || len(kept)+len(held) != len(m) {
			t.Fatal(own, other, m, e)
		}
		var k []api.Axiom
		for _, i := range kept {
			k = append(k, m[i])
		}
		if len(k) > 0 {
			if won, e := mapping.Gains(own, other, k); e != api.OK || len(won) > 0 {
				t.Fatal("the kept ones win", won, e)
			}
		}
		same, e := carry.Axioms(api.Alignment{Axioms: m}, nil)
		if e != api.OK || !slices.EqualFunc(same, m, alike) {
			t.Fatal("no renamings", m, same)
		}
		first, second := list("X>Y Y>X r:q>z"), list("X>V Y>W r:z>q")
		both, e := rename.Compose(first, second)
		if e != api.OK {
			t.Fatal(e)
		}
		x, e := carry.Axioms(api.Alignment{Axioms: m}, first)
		if e != api.OK {
			t.Fatal(e)
		}
		y, e := carry.Axioms(api.Alignment{Axioms: x}, second)
		z, e2 := carry.Axioms(api.Alignment{Axioms: m}, both)
		if e != api.OK || e2 != api.OK || !slices.EqualFunc(y, z, alike) {
			t.Fatal(show(y), show(z))
		}
	}
}

package rename_test

import (
	"math/rand"
	"slices"
	"strconv"
	"strings"
	"testing"

	"veilstone/api"
	"veilstone/printer"
	"veilstone/rename"
	"veilstone/sample"
	"veilstone/terms"
)

// list parses "A>B r:s>t": renamings of concepts, or of the kinds r, f and i.
func list(s string) (l []api.Renaming) {
	for _, f := range strings.Fields(s) {
		kind := api.ConceptN
		if k := strings.IndexByte("?rfi", f[0]); k > 0 && len(f) > 1 && f[1] == ':' {
			kind, f = k+1, f[2:]
		}
		from, to, _ := strings.Cut(f, ">")
		l = append(l, api.Renaming{Kind: kind, Old: from, New: to})
	}
	return l
}

func many(n int) (l []api.Renaming) {
	for i := range n {
		l = append(l, api.Renaming{Kind: 1, Old: "A" + strconv.Itoa(10000+i), New: "B" + strconv.Itoa(i)})
	}
	return l
}

// P33.1
func TestCheck(t *testing.T) {
	for s, want := range map[string]api.Errno{
		"": api.OK, "A>B": api.OK, "A>B B>A": api.OK, "A>B B>C r:A>B f:A>B i:A>p:B": api.OK, "A>A": api.ErrRename, "A>B A>C": api.ErrRename, "A>C B>C": api.ErrRename, "B>C A>D": api.ErrRename, "r:A>B A>B": api.ErrRename, "_A>B": api.ErrRename, "A>_B": api.ErrRename, "A>": api.ErrRename, ">A": api.ErrRename, "and>A": api.ErrRename, "A>C r:B>C": api.OK, "A>a:b:c": api.ErrRename, "A>D B>E C>D": api.ErrRename,
	} {
		if e := rename.Check(list(s)); e != want {
			t.Errorf("%s: %d", s, e)
		}
	}
	for kind, want := range map[int]api.Errno{0: api.ErrRename, 5: api.ErrRename, -1: api.ErrRename, 4: api.OK} {
		if e := rename.Check([]api.Renaming{{Kind: kind, Old: "A", New: "B"}}); e != want {
			t.Error(kind, e)
		}
	}
	if e := rename.Check(many(1024)); e != api.OK {
		t.Error(e)
	}
	if e := rename.Check(append(many(1024), api.Renaming{})); e != api.ErrLimit {
		t.Error(e)
	}
}

func show(l []api.Axiom) string {
	var s []string
	for _, a := range l {
		x, _ := printer.Axiom(a)
		s = append(s, x)
	}
	return strings.Join(s, "; ")
}

// P33.1
func TestNameAxioms(t *testing.T) {
	l := list("A>B A>C r:A>D")
	l = append(l, api.Renaming{Kind: 77, Old: "", New: "x"})
	for k, want := range map[[2]string]string{{"1", "A"}: "B", {"2", "A"}: "D", {"3", "A"}: "A", {"1", "B"}: "B", {"77", ""}: "x"} {
		kind, _ := strconv.Atoi(k[0])
		if s := rename.Name(l, kind, k[1]); s != want {
			t.Error(k, s)
		}
	}
	for _, x := range []struct{ renamings, axioms, want string }{
		{"", "B and A sub some r C.", "A and B sub some r C"}, {"A>B B>A", "A sub B. B sub some A A.", "B sub A; A sub some A B"}, {"A>X r:A>r f:A>g i:A>a", "A and A in 1 to 2 sub some A {A}. link A A A. type A A. chain A b A sub A. role A sub b. domain A A. reflexive A.", "X and g in 1 to 2 sub some r {a}; link a r a; type a X; chain r b r sub r; role r sub b; domain r X; reflexive r"}, {"A>Z", "A and M sub M.", "M and Z sub M"}, {"B>A", "A and B sub C. A disjoint B.", "A sub C; A disjoint A"}, {"C>A", "B same C.", "A same B"},
	} {
		l, e := rename.Axioms(list(x.renamings), sample.Axioms(x.axioms))
		if e != api.OK || show(l) != x.want {
			t.Errorf("%v: %s, %d", x, show(l), e)
		}
	}
	long := make([]api.Axiom, 2000)
	for i := range long {
		long[i] = sample.Axiom("A sub B")
	}
	for k, x := range []struct {
		l []api.Renaming
		x []api.Axiom
		e api.Errno
	}{{list("A>A"), []api.Axiom{{}}, api.ErrRename}, {many(1025), nil, api.ErrLimit}, {list("A>B"), []api.Axiom{long[0], {Kind: api.ReflexiveA}, {}}, api.ErrName}, {list("A>B"), long, api.OK}, {nil, nil, api.OK}} {
		if y, e := rename.Axioms(x.l, x.x); e != x.e || e != api.OK && y != nil || e == api.OK && len(y) != len(x.x) {
			t.Error(k, e)
		}
	}
}

func text(l []api.Renaming) (s string) {
	for _, r := range l {
		s += []string{"", "", "r:", "f:", "i:"}[r.Kind] + r.Old + ">" + r.New + " "
	}
	return strings.TrimSpace(s)
}

// P33.2
func TestComposeInverse(t *testing.T) {
	for _, x := range []struct {
		l, m, want string
		e          api.Errno
	}{
		{"A>B", "B>C", "", api.ErrRename}, {"A>B B>A", "B>C", "A>C B>A", api.OK}, {"A>B B>A", "A>B B>A", "", api.OK}, {"A>B", "C>D", "A>B C>D", api.OK}, {"A>B", "r:B>C", "A>B r:B>C", api.OK}, {"", "A>B", "A>B", api.OK}, {"A>B", "", "A>B", api.OK}, {"A>B B>C", "C>A B>Z", "", api.ErrRename}, {"A>B B>C C>A", "A>C B>A C>B", "", api.OK}, {"A>A", "B>B", "", api.ErrRename}, {"A>B", "B>B", "", api.ErrRename},
	} {
		if l, e := rename.Compose(list(x.l), list(x.m)); e != x.e || text(l) != x.want {
			t.Errorf("%v: %s, %d", x, text(l), e)
		}
	}
	if l, e := rename.Compose(many(1025), list("A>A")); e != api.ErrLimit || l != nil {
		t.Error(e)
	}
	if l, e := rename.Compose(many(1024), list("r:a>b")); e != api.ErrLimit || l != nil {
		t.Error(e)
	}
	for s, want := range map[string]string{"": "", "A>Z B>C": "C>B Z>A", "A>B B>A": "A>B B>A", "C>A r:b>a": "A>C r:a>b"} {
		if l, e := rename.Inverse(list(s)); e != api.OK || text(l) != want {
			t.Error(s, text(l), e)
		}
	}
	if l, e := rename.Inverse(list("A>A")); e != api.ErrRename || l != nil {
		t.Error(e)
	}
}

// P33.3
func TestConsequences(t *testing.T) {
	r := rand.New(rand.NewSource(1))
	names := []string{"A", "B", "C", "D", "E"}
	random := func() (l []api.Renaming) {
		for kind := 1; kind <= 4; kind++ {
			to := r.Perm(5)
			for i, name := range names {
				if r.Intn(3) == 0 && to[i] != i {
					l = append(l, api.Renaming{Kind: kind, Old: name, New: names[to[i]]})
				}
			}
		}
		return l
	}
	axioms := sample.Axioms("A sub some B (C and {D}). link A B C. chain A B C sub D. E in 1 to 2 sub A. A and B sub C. type D E and A in 0 to 1.")
	for range 1000 {
		l, m := random(), random()
		if rename.Check(l) != api.OK || rename.Check(m) != api.OK {
			t.Fatal(l, m)
		}
		if x, e := rename.Compose(l, m); e == api.OK {
			for kind := 0; kind <= 5; kind++ {
				for _, s := range append(names, "F") {
					if rename.Name(x, kind, s) != rename.Name(m, kind, rename.Name(l, kind, s)) {
						t.Fatal(l, m, x)
					}
				}
			}
		}
		inverse, e := rename.Inverse(l)
		twice, e2 := rename.Inverse(inverse)
		if e != api.OK || e2 != api.OK || !slices.Equal(twice, l) {
			t.Fatal(l, inverse, twice)
		}
		// All New are Old, or do not occur in the axioms.
		closed := !slices.ContainsFunc(l, func(x api.Renaming) bool {
			return !slices.ContainsFunc(l, func(y api.Renaming) bool { return y.Kind == x.Kind && y.Old == x.New })
		})
		if y, e := rename.Axioms(l, axioms); e == api.OK && closed {
			back, e := rename.Axioms(inverse, y)
			if e != api.OK || !slices.EqualFunc(back, axioms, func(a, b api.Axiom) bool { return terms.CompareAxiom(a, b) == 0 }) {
				t.Fatal(l, show(y), show(back))
			}
		}
		// Compose of a list and its inverse has no renaming of an Old of the list.
		if x, e := rename.Compose(l, inverse); e == api.OK {
			for _, y := range x {
				if slices.ContainsFunc(l, func(z api.Renaming) bool { return z.Kind == y.Kind && z.Old == y.Old }) {
					t.Fatal(l, x)
				}
			}
		}
	}
}

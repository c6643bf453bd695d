package roles_test

import (
	"math/rand"
	"slices"
	"strings"
	"testing"

	"veilstone/api"
	"veilstone/roles"
	"veilstone/sample"
)

func expectCircle(t *testing.T, axioms, want string) {
	t.Helper()
	circle, e := roles.Check(sample.Axioms(axioms))
	if strings.Join(circle, " ") != want || e != api.OK && want == "" || e != api.ErrCircle && want != "" {
		t.Errorf("%s: %v, %d, want %q", axioms, circle, e, want)
	}
}

// P6.1
func TestCheck(t *testing.T) {
	for axioms, want := range map[string]string{
		"": "", "role r sub s. role s sub r.": "", "role r sub r.": "", "chain r s sub r.": "", "chain s r sub r.": "", "chain t t sub t.": "", "chain t r sub t.": "", "chain t r s sub t.": "", "chain r s t sub t.": "",
		"chain r t r sub t.": "t", "chain s r s sub r.": "r", "chain t t t sub t.": "t", "chain t r t sub t.": "t", "chain t r r t sub t.": "t", "chain r t t sub t.": "t",
		"chain r s sub t. chain t q sub s.": "s t", "chain r s sub t. role t sub s.": "s t", "chain r s sub t. role t sub q. role q sub s.": "q s t",
		"chain t r sub t. role t sub r.": "r t", "role a sub b. role b sub c. role c sub a. chain c x sub a.": "a b c", "role a sub b. role b sub c. role c sub a. chain c x sub a. chain c x sub b.": "b c",
		"chain z z sub z. chain b b sub a. chain a a sub b. chain a a sub c. chain c c sub a.": "a b",
		"reflexive r. A sub B. chain r s sub t.":                                               "",
	} {
		expectCircle(t, axioms, want)
	}
	for _, a := range []api.Axiom{{}, {Kind: api.RoleSubA, Role: "r"}} {
		if circle, e := roles.Check(append(sample.Axioms("chain s r s sub r."), a)); e != api.ErrAxiom || circle != nil {
			t.Error(circle, e)
		}
	}
}

// circles finds the smallest circle by trying all lists of different roles.
func circles(l []api.Axiom) (best []string) {
	step := func(r, s string) (ok, strict bool) {
		for _, a := range l {
			same := 0
			for _, x := range a.Roles {
				if x == a.Role {
					same++
				}
			}
			for i, x := range a.Roles {
				if x != r || a.Role != s {
					continue
				}
				n := len(a.Roles)
				exempt := x == s && (same == 1 && (i == 0 || i == n-1) || same == 2 && n == 2)
				if a.Kind == api.RoleSubA && r != s {
					ok = true
				} else if a.Kind == api.ChainA && !exempt {
					ok, strict = true, true
				}
			}
		}
		return ok, strict
	}
	var try func(way []string, strict bool)
	try = func(way []string, strict bool) {
		if ok, s := step(way[len(way)-1], way[0]); ok && (strict || s) {
			if best == nil || len(way) < len(best) || len(way) == len(best) && slices.Compare(way, best) < 0 {
				best = slices.Clone(way)
			}
		}
		for _, r := range []string{"a", "b", "c", "d"} {
			if ok, s := step(way[len(way)-1], r); ok && !slices.Contains(way, r) {
				try(append(slices.Clone(way), r), strict || s)
			}
		}
	}
	for _, r := range []string{"a", "b", "c", "d"} {
		try([]string{r}, false)
	}
	return best
}

func randomAxioms(r *rand.Rand, most int) (l []api.Axiom) {
	role := func() string { return string(rune('a' + r.Intn(4))) }
	for range r.Intn(most) {
		switch r.Intn(6) {
		case 0, 1:
			l = append(l, api.Axiom{Kind: api.RoleSubA, Roles: []string{role()}, Role: role()})
		case 2:
			l = append(l, api.Axiom{Kind: api.ReflexiveA, Role: role()})
		case 3:
			l = append(l, api.Axiom{Kind: api.ChainA, Roles: []string{role(), role(), role()}, Role: role()})
		case 4:
			l = append(l, api.Axiom{Kind: api.ChainA, Roles: []string{role(), role()}, Role: role()})
		case 5:
			l = append(l, sample.Axiom("A sub B"))
		}
	}
	return l
}

// P6.1 and P6.4
func TestCheckAll(t *testing.T) {
	r := rand.New(rand.NewSource(1))
	for range 4000 {
		l := randomAxioms(r, 8)
		circle, e := roles.Check(l)
		if want := circles(l); !slices.Equal(circle, want) || (e == api.OK) != (want == nil) {
			t.Fatalf("%v: %v, want %v", l, circle, want)
		}
		if e == api.OK && len(l) > 0 {
			if _, e := roles.Check(slices.Delete(slices.Clone(l), 0, 1)); e != api.OK {
				t.Fatal("fewer axioms have a circle")
			}
		}
		r.Shuffle(len(l), func(i, k int) { l[i], l[k] = l[k], l[i] })
		if c, _ := roles.Check(l); !slices.Equal(c, circle) {
			t.Fatal("the order matters")
		}
	}
}

// P6.2
func TestAboveSimple(t *testing.T) {
	for _, x := range []struct {
		axioms, role, above string
		simple              bool
	}{
		{"", "r", "r", true}, {"role r sub s.", "r", "r s", true}, {"role r sub s.", "s", "s", true}, {"role r sub s. role s sub r.", "s", "r s", true}, {"role z sub y. role y sub x. role y sub z. role x sub w.", "y", "w x y z", true},
		{"chain r r sub r. role r sub s.", "s", "s", false}, {"chain r r sub r. role r sub s.", "q", "q", true}, {"chain r r sub r. role s sub r.", "s", "r s", true}, {"reflexive r. role r sub s.", "s", "s", false}, {"reflexive r.", "r", "r", false}, {"chain s s sub r. role r sub q. role q sub p:z.", "p:z", "p:z", false}, {"chain s s sub r.", "s", "s", true}, {"", "_r", "_r", true},
	} {
		l := sample.Axioms(x.axioms)
		if above, e := roles.Above(l, x.role); e != api.OK || strings.Join(above, " ") != x.above {
			t.Errorf("%s %s: %v, %d", x.axioms, x.role, above, e)
		}
		if simple, e := roles.Simple(l, x.role); e != api.OK || simple != x.simple {
			t.Errorf("%s %s: %v, %d", x.axioms, x.role, simple, e)
		}
	}
	for _, role := range []string{"", "and", "a:b:c"} {
		if x, e := roles.Above(nil, role); e != api.ErrName || x != nil {
			t.Error(role, x, e)
		}
		if ok, e := roles.Simple(nil, role); e != api.ErrName || ok {
			t.Error(role, e)
		}
		if x, e := roles.Above([]api.Axiom{{}}, role); e != api.ErrAxiom || x != nil {
			t.Error(role, x, e)
		}
		if ok, e := roles.Simple([]api.Axiom{{}}, role); e != api.ErrAxiom || ok {
			t.Error(role, e)
		}
	}
}

// P6.3
func TestWordCompose(t *testing.T) {
	for _, x := range []struct {
		axioms, word, role string
		want               bool
	}{
		{"", "r", "r", true}, {"", "", "r", false}, {"", "r r", "r", false}, {"chain r s sub t. role t sub u.", "r s", "t", true}, {"chain r s sub t. role t sub u.", "r s", "u", true}, {"chain r s sub t. role t sub u.", "s r", "u", false},
		{"reflexive q.", "", "q", true}, {"reflexive q.", "q", "q", true}, {"reflexive q. chain q r sub t.", "r", "t", true}, {"reflexive q. chain q r sub t.", "q r", "t", true}, {"reflexive q. chain q q sub t.", "", "t", true}, {"reflexive q. chain q r q sub t. role t sub u.", "r", "u", true},
		{"chain r r sub r.", strings.Repeat("r ", 64), "r", true}, {"chain r s t u sub v.", "r s t u", "v", true}, {"chain r s t u sub v.", "r s t", "v", false}, {"chain r s t sub v. chain r s u sub w.", "r s u", "v", false}, {"chain r s t sub v. chain r s u sub w.", "r s u", "w", true}, {"chain a a a sub a.", "a a a a a", "a", true}, {"chain a a a sub a.", "a a a a", "a", false},
	} {
		if ok, e := roles.Word(sample.Axioms(x.axioms), strings.Fields(x.word), x.role); e != api.OK || ok != x.want {
			t.Errorf("%s: %q is a word of %s: %v, %d", x.axioms, x.word, x.role, ok, e)
		}
	}
	for _, x := range []struct{ axioms, r, s, want string }{
		{"", "r", "s", ""}, {"chain r s sub t. role t sub u.", "r", "s", "t u"}, {"reflexive r.", "r", "s", ""}, {"reflexive r. chain r s sub s.", "r", "s", "s"}, {"reflexive q. chain r q s sub t. reflexive z.", "r", "s", "t"}, {"chain r r sub r.", "r", "r", "r"},
	} {
		if l, e := roles.Compose(sample.Axioms(x.axioms), x.r, x.s); e != api.OK || strings.Join(l, " ") != x.want {
			t.Errorf("%s: %s %s: %v, %d", x.axioms, x.r, x.s, l, e)
		}
	}
	long := slices.Repeat([]string{"r"}, 65)
	for _, x := range []struct {
		l    []api.Axiom
		word []string
		role string
		e    api.Errno
	}{{nil, long, "r", api.ErrLimit}, {nil, append(long, ""), "r", api.ErrName}, {nil, long, "", api.ErrName}, {[]api.Axiom{{}}, long, "", api.ErrAxiom}} {
		if ok, e := roles.Word(x.l, x.word, x.role); e != x.e || ok {
			t.Error(e, x.e)
		}
	}
	for _, x := range [][2]string{{"", "r"}, {"r", "and"}} {
		if l, e := roles.Compose(nil, x[0], x[1]); e != api.ErrName || l != nil {
			t.Error(l, e)
		}
		if l, e := roles.Compose([]api.Axiom{{}}, x[0], x[1]); e != api.ErrAxiom || l != nil {
			t.Error(l, e)
		}
	}
}

// words returns all words of up to 4 roles, by the rules alone.
func words(l []api.Axiom) map[[2]string]bool {
	w := map[[2]string]bool{} // role and word
	for _, r := range []string{"a", "b", "c", "d"} {
		w[[2]string{r, r}] = true
	}
	for n := -1; n != len(w); {
		n = len(w)
		of := map[string][]string{}
		for k := range w {
			of[k[0]] = append(of[k[0]], k[1])
		}
		for _, a := range l {
			found := []string{""}
			if a.Kind < api.RoleSubA || a.Kind > api.ReflexiveA {
				continue
			}
			for _, r := range a.Roles {
				var longer []string
				for _, x := range found {
					for _, y := range of[r] {
						if len(x)+len(y) <= 4 {
							longer = append(longer, x+y)
						}
					}
				}
				slices.Sort(longer)
				found = slices.Compact(longer)
			}
			for _, x := range found {
				w[[2]string{a.Role, x}] = true
			}
		}
	}
	return w
}

// P6.3 and P6.4
func TestWordsAll(t *testing.T) {
	r := rand.New(rand.NewSource(2))
	for range 150 {
		l := randomAxioms(r, 6)
		w := words(l)
		for _, word := range []string{"", "a", "b", "ab", "ba", "cc", "abc", "aab", "dd", "dcba", "aaaa"} {
			for _, role := range []string{"a", "b", "c", "d"} {
				ok, e := roles.Word(l, strings.Split(word, ""), role)
				if word == "" {
					ok, e = roles.Word(l, nil, role)
				}
				if e != api.OK || ok != w[[2]string{role, word}] {
					t.Fatalf("%v: %q of %s: %v", l, word, role, ok)
				}
				above, _ := roles.Above(l, role)
				for _, s := range above {
					if ok && !w[[2]string{s, word}] {
						t.Fatal("not a word of a greater role")
					}
				}
				if simple, _ := roles.Simple(l, role); simple && ok && len(word) != 1 {
					t.Fatalf("%v: %q of the simple %s", l, word, role)
				}
			}
		}
		used := "bc"
		for _, a := range l {
			used += strings.Join(a.Roles, "") + a.Role
		}
		x, _ := roles.Compose(l, "b", "c")
		for _, role := range []string{"a", "b", "c", "d"} {
			if slices.Contains(x, role) != (w[[2]string{role, "bc"}] && strings.Contains(used, role)) {
				t.Fatal(l, x)
			}
		}
	}
}

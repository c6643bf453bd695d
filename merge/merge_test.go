package merge_test

import (
	"math/rand"
	"slices"
	"strconv"
	"strings"
	"testing"

	"veilstone/api"
	"veilstone/base"
	"veilstone/differ"
	"veilstone/entail"
	"veilstone/merge"
	"veilstone/printer"
	"veilstone/sample"
	"veilstone/terms"
)

// P31.1
func TestThree(t *testing.T) {
	for _, x := range []struct{ old, ours, theirs, want string }{
		{"A sub B.", "A sub B. A sub C.", "", "A sub C."}, {"A sub B.", "A sub B. B sub C.", "C sub D.", "B sub C. C sub D."}, {"", "A sub B.", "C sub D.", "A sub B. C sub D."}, {"A sub B.", "A sub B.", "A sub B.", "A sub B."}, {"A sub B.", "", "", ""}, {"A sub B.", "", "open A sub B.", ""}, {"open A sub B.", "A sub B.", "", ""},
		{"", "A sub B.", "open A sub B.", "open A sub B."}, {"", "open A sub B.", "", "open A sub B."}, {"A sub B.", "open A sub B.", "A sub B.", "open A sub B."}, {"A sub B.", "A sub B.", "open A sub B.", "open A sub B."}, {"open A sub B.", "A sub B.", "open A sub B.", "A sub B."}, {"open A sub B.", "open A sub B.", "A sub B.", "A sub B."}, {"open A sub B.", "open A sub B.", "open A sub B.", "open A sub B."}, {"open A sub B.", "A sub B.", "A sub B.", "A sub B."}, {"A sub B.", "open A sub B.", "open A sub B.", "open A sub B."}, {"", "A sub B.", "A sub B.", "A sub B."}, {"", "open A sub B.", "open A sub B.", "open A sub B."},
	} {
		if y, e := merge.Three(sample.Base(x.old), sample.Base(x.ours), sample.Base(x.theirs)); e != api.OK || !base.Same(y, sample.Base(x.want)) {
			t.Errorf("%v: %v, %d", x, y, e)
		}
	}
	bad, worse := api.Base{Axioms: sample.Axioms("B sub A. A sub B.")}, api.Base{Axioms: []api.Axiom{{}}}
	for k, x := range []struct {
		old, ours, theirs api.Base
		e                 api.Errno
	}{{bad, worse, worse, api.ErrOrder}, {api.Base{}, bad, worse, api.ErrOrder}, {api.Base{}, api.Base{}, bad, api.ErrOrder}, {api.Base{}, sample.Base("chain r s sub t."), sample.Base("role t sub s."), api.ErrCircle}, {api.Base{}, many(0, 1000), many(1000, 25), api.ErrLimit}, {api.Base{}, many(0, 1000), many(1000, 24), api.OK}} {
		if y, e := merge.Three(x.old, x.ours, x.theirs); e != x.e || e != api.OK && y.Axioms != nil {
			t.Error(k, e)
		}
		if y, e := merge.Many([]api.Base{x.old}, x.ours, x.theirs); e != x.e || e != api.OK && y.Axioms != nil {
			t.Error(k, e)
		}
		if r, e := merge.Report(x.old, x.ours, x.theirs); k < 3 && (e != x.e || r.New != nil) {
			t.Error(k, e)
		}
	}
}

func many(from, n int) api.Base {
	var l []api.Axiom
	for i := range n {
		l = append(l, sample.Axiom("type a"+strconv.Itoa(from+i)+" A"))
	}
	b, _ := base.New(l)
	return b
}

// P31.1
func TestMany(t *testing.T) {
	for _, x := range []struct {
		olds               []string
		ours, theirs, want string
	}{
		{nil, "A sub B.", "open A sub B. C sub D.", "open A sub B. C sub D."}, {[]string{"A sub B."}, "A sub B. A sub C.", "", "A sub C."}, {[]string{"A sub B. C sub D.", "A sub B. E sub F."}, "A sub B. C sub D.", "E sub F.", "C sub D. E sub F."}, {[]string{"open A sub B.", "A sub B."}, "open A sub B.", "A sub B.", "open A sub B."}, {[]string{"open A sub B.", "open A sub B."}, "open A sub B.", "A sub B.", "A sub B."},
	} {
		var olds []api.Base
		for _, s := range x.olds {
			olds = append(olds, sample.Base(s))
		}
		if y, e := merge.Many(olds, sample.Base(x.ours), sample.Base(x.theirs)); e != api.OK || !base.Same(y, sample.Base(x.want)) {
			t.Errorf("%v: %v, %d", x, y, e)
		}
	}
	bad := api.Base{Axioms: sample.Axioms("B sub A. A sub B.")}
	if y, e := merge.Many([]api.Base{{}, bad, {Axioms: []api.Axiom{{}}}}, api.Base{Axioms: []api.Axiom{{}}}, api.Base{}); e != api.ErrOrder || y.Axioms != nil {
		t.Error(e)
	}
	if y, e := merge.Many(nil, api.Base{}, bad); e != api.ErrOrder || y.Axioms != nil {
		t.Error(e)
	}
}

func show(l []api.Axiom) string {
	var s []string
	for _, a := range l {
		x, _ := printer.Axiom(a)
		s = append(s, x)
	}
	return strings.Join(s, "; ")
}

func changes(l []api.Change) (s string) {
	for _, c := range l {
		s += show([]api.Axiom{c.Axiom}) + " <- " + show(c.Witness) + " | "
	}
	return s
}

// P31.2
func TestReport(t *testing.T) {
	for _, x := range []struct{ ours, theirs, merged, new, lost, clash string }{
		{"A sub B.", "B sub C.", "A sub B. B sub C.", "A sub C <- A sub B; B sub C | ", "", ""}, {"A sub B. B sub C.", "C sub D.", "B sub C. C sub D.", "B sub D <- B sub C; C sub D | ", "", ""}, {"A sub B. B sub C.", "A sub C. A sub D.", "A sub D.", "", "A sub C <- A sub B; B sub C | ", ""}, {"A sub C. A sub D.", "A sub B. B sub C.", "A sub D.", "", "A sub C <- A sub C | ", ""}, {"A sub B.", "A sub B.", "A sub B.", "", "", ""},
		{"A disjoint B. type a A.", "type a B.", "A disjoint B. type a A. type a B.", "", "", "type a A; type a B; A disjoint B"}, {"role r sub s.", "role s sub t.", "role r sub s. role s sub t.", "private role r sub t <- role r sub s; role s sub t | ", "", ""},
	} {
		r, e := merge.Report(sample.Base(x.ours), sample.Base(x.theirs), sample.Base(x.merged))
		clash := strings.Split(show(r.Clash), "; ")
		slices.Sort(clash)
		want := strings.Split(x.clash, "; ")
		slices.Sort(want)
		if e != api.OK || changes(r.New) != x.new || changes(r.Lost) != x.lost || !slices.Equal(clash, want) {
			t.Errorf("%v: %q, %q, %v, %d", x, changes(r.New), changes(r.Lost), clash, e)
		}
	}
	var l []api.Axiom
	for i := range 300 {
		l = append(l, sample.Axiom("type a"+strconv.Itoa(i)+" A"), sample.Axiom("A sub some r {a"+strconv.Itoa(i)+"}"))
	}
	big, _ := base.New(l)
	if r, e := merge.Report(api.Base{}, api.Base{}, big); e != api.ErrLimit || r.New != nil {
		t.Error(e)
	}
}

// P31.3
func TestConsequences(t *testing.T) {
	r := rand.New(rand.NewSource(1))
	pool := sample.Axioms("A sub B. B sub C. C sub A. type a A. link a r b. domain r C. A disjoint C. role r sub s. A and B sub D. D sub some r A. B sub nothing.")
	random := func() api.Base {
		var l []api.Axiom
		for _, a := range pool {
			if r.Intn(3) == 0 {
				a.Open = a.Open || r.Intn(2) == 0
				l = append(l, a)
			}
		}
		b, _ := base.New(l)
		return b
	}
	for range 400 {
		old, ours, theirs := random(), random(), random()
		x, e := merge.Three(old, ours, theirs)
		y, _ := merge.Three(old, theirs, ours)
		if e != api.OK || base.Check(x) != api.OK || !base.Same(x, y) {
			t.Fatal(old, ours, theirs, x, y)
		}
		if z, _ := merge.Three(old, old, theirs); !base.Same(z, theirs) {
			t.Fatal("one side is old", old, theirs, z)
		}
		if z, _ := merge.Three(old, ours, ours); !base.Same(z, ours) {
			t.Fatal("both are equal", old, ours, z)
		}
		both, _ := base.Union(ours, theirs)
		if rest, _ := base.Minus(x, both); len(rest.Axioms) > 0 {
			t.Fatal("other axioms", rest)
		}
		for _, a := range x.Axioms {
			_, inOld := base.Find(old, a)
			i, inOurs := base.Find(ours, a)
			k, inTheirs := base.Find(theirs, a)
			switch {
			case !inOld && inOurs && !inTheirs && ours.Axioms[i].Open != a.Open, !inOld && !inOurs && theirs.Axioms[k].Open != a.Open, inOld && !(inOurs && inTheirs):
				t.Fatal(old, ours, theirs, x)
			}
		}
	}
	for range 25 {
		old, ours, theirs := random(), random(), random()
		x, _ := merge.Three(old, ours, theirs)
		report, e := merge.Report(ours, theirs, x)
		if e != api.OK {
			t.Fatal(e)
		}
		n, _ := terms.Vocabulary(slices.Concat(ours.Axioms, theirs.Axioms, x.Axioms))
		all, _ := differ.Conclusions(x, n)
		new, lost := 0, 0
		for _, a := range all {
			ok, _ := entail.Entails(ours, a)
			ok2, _ := entail.Entails(theirs, a)
			if !ok && !ok2 {
				new++
			}
		}
		before, _ := differ.Conclusions(ours, n)
		for _, a := range before {
			ok, _ := entail.Entails(theirs, a)
			ok2, _ := entail.Entails(x, a)
			if ok && !ok2 {
				lost++
			}
		}
		consistent, _ := entail.Consistent(x)
		if new != len(report.New) || lost != len(report.Lost) || consistent != (len(report.Clash) == 0) {
			t.Fatal(ours, theirs, x, report)
		}
		for _, c := range report.New {
			w, _ := base.New(c.Witness)
			ok, _ := entail.Entails(w, c.Axiom)
			a, _ := base.Minus(w, ours)
			b, _ := base.Minus(w, theirs)
			if !ok || len(a.Axioms) == 0 || len(b.Axioms) == 0 {
				t.Fatal("witness", c)
			}
		}
		for _, c := range report.Lost {
			w, _ := base.New(c.Witness)
			if ok, _ := entail.Entails(w, c.Axiom); !ok {
				t.Fatal("witness", c)
			}
		}
	}
}

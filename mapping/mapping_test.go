package mapping_test

import (
	"bytes"
	"math/rand"
	"slices"
	"strconv"
	"strings"
	"testing"

	"veilstone/api"
	"veilstone/base"
	"veilstone/differ"
	"veilstone/mapping"
	"veilstone/objects"
	"veilstone/printer"
	"veilstone/sample"
	"veilstone/signing"
	"veilstone/terms"
)

// sign makes a signed alignment to a version of another base.
func sign(other api.Base, maps string) api.Alignment {
	id, _ := objects.ID(other)
	k, _ := signing.New([]byte("owner"), 4)
	public, _ := signing.Public(k)
	m, _ := base.New(sample.Axioms(maps))
	a := api.Alignment{Name: "al", Base: id, Axioms: m.Axioms, Public: public}
	body, _ := mapping.Body(a)
	_, a.Sig, _ = signing.Sign(k, body)
	return a
}

// P34.1
func TestBody(t *testing.T) {
	a := sign(sample.Base("X sub Y."), "A sub p:X.")
	b, e := mapping.Body(a)
	a.Sig = api.Signature{}
	want, _ := objects.Alignment(a)
	if e != api.OK || !bytes.Equal(b, want) {
		t.Error(e)
	}
	a.Sig = api.Signature{Parts: make([]api.Digest, 300)}
	if b, e := mapping.Body(a); e != api.OK || !bytes.Equal(b, want) {
		t.Error(e)
	}
	a.Name = strings.Repeat("n", 25)
	if b, e := mapping.Body(a); e != api.ErrArg || b != nil {
		t.Error(e)
	}
}

// P34.1 and P34.3
func TestCheck(t *testing.T) {
	own, other := sample.Base("A sub B."), sample.Base("X sub Y.")
	bad := api.Base{Axioms: sample.Axioms("B sub A. A sub B.")}
	good := sign(other, "A sub p:X. p:Y sub C.")
	if e := mapping.Check(own, other, good); e != api.OK {
		t.Fatal(e)
	}
	for k, x := range []struct {
		own, other api.Base
		change     func(a *api.Alignment)
		e          api.Errno
	}{
		{bad, bad, func(a *api.Alignment) { a.Name = strings.Repeat("n", 25) }, api.ErrOrder}, {own, bad, func(a *api.Alignment) { a.Name = strings.Repeat("n", 25) }, api.ErrOrder}, {own, other, func(a *api.Alignment) { a.Name = strings.Repeat("n", 25); a.Axioms = nil }, api.ErrArg}, {own, other, func(a *api.Alignment) { a.Axioms = append(slices.Clone(a.Axioms), api.Axiom{}) }, api.ErrAxiom}, {own, other, func(a *api.Alignment) { a.Name = "p:n" }, api.ErrMapping}, {own, other, func(a *api.Alignment) { a.Name = "" }, api.ErrMapping}, {own, other, func(a *api.Alignment) { a.Name = "_n" }, api.ErrMapping}, {own, other, func(a *api.Alignment) { a.Name = "and"; a.Base[0]++ }, api.ErrMapping}, {own, other, func(a *api.Alignment) { a.Axioms = nil; a.Base[0]++ }, api.ErrMapping},
		{own, other, func(a *api.Alignment) { a.Base[0]++; a.Sig.Index++ }, api.ErrStale}, {own, sample.Base("X sub Z."), func(a *api.Alignment) {}, api.ErrStale}, {own, sample.Base("q:X sub Z."), func(a *api.Alignment) {}, api.ErrMapping}, {own, other, func(a *api.Alignment) { a.Sig.Index++ }, api.ErrSignature}, {own, other, func(a *api.Alignment) { a.Name = "other" }, api.ErrSignature}, {own, other, func(a *api.Alignment) { a.Axioms = a.Axioms[:1] }, api.ErrSignature}, {own, other, func(a *api.Alignment) { a.Public[0]++ }, api.ErrSignature}, {own, other, func(a *api.Alignment) { a.Sig = api.Signature{} }, api.ErrSignature},
	} {
		a := good
		a.Axioms = slices.Clone(good.Axioms)
		x.change(&a)
		if e := mapping.Check(x.own, x.other, a); e != x.e {
			t.Errorf("case %d: %d, want %d", k, e, x.e)
		}
		if y, e := mapping.Accept(x.own, x.other, a); e != x.e || y.Axioms != nil {
			t.Errorf("case %d: %d, want %d", k, e, x.e)
		}
	}
}

// P34.2
func TestMappings(t *testing.T) {
	own, other := sample.Base("A sub B."), sample.Base("X sub Y.")
	bad := api.Base{Axioms: sample.Axioms("B sub A. A sub B.")}
	untidy := sample.Axiom("A sub p:X")
	untidy.Right = api.Concept{Kind: api.AndC, Parts: []api.Concept{untidy.Right, untidy.Right}}
	long := sample.Base("Xaaaaaaaaaaaaaaaaaaaaaa sub Y.") // 23 bytes
	many := func(n int) (l []api.Axiom) {
		for i := range n {
			l = append(l, sample.Axiom("A"+strconv.Itoa(1000+i)+" sub p:X"))
		}
		return l
	}
	for k, x := range []struct {
		own, other api.Base
		maps       []api.Axiom
		e          api.Errno
	}{
		{own, other, nil, api.ErrMapping}, {bad, api.Base{Axioms: []api.Axiom{{}}}, nil, api.ErrOrder}, {own, bad, nil, api.ErrOrder}, {own, other, sample.Axioms("A sub B."), api.ErrMapping}, {own, other, sample.Axioms("p:A sub p:B."), api.ErrMapping}, {own, other, sample.Axioms("A sub p:X. B sub q:X."), api.ErrMapping}, {own, other, sample.Axioms("A and q:B sub p:X."), api.ErrMapping}, {own, other, sample.Axioms("A disjoint p:X."), api.ErrMapping}, {own, other, sample.Axioms("domain r p:X."), api.ErrMapping}, {own, other, sample.Axioms("type a p:X."), api.ErrMapping}, {own, other, sample.Axioms("A sub some p:r {a}."), api.ErrMapping}, {own, other, sample.Axioms("A sub some p:r f in 1 to 2."), api.ErrMapping}, {own, other, sample.Axioms("chain r p:s sub t."), api.ErrMapping},
		{own, other, sample.Axioms("B sub p:X. A sub p:X."), api.ErrMapping}, {own, other, sample.Axioms("A sub p:X. open A sub p:X."), api.ErrMapping}, {own, other, []api.Axiom{untidy}, api.ErrMapping}, {own, other, []api.Axiom{{}}, api.ErrMapping}, {own, other, many(128), api.OK}, {own, other, many(129), api.ErrMapping}, {own, sample.Base("p:X sub Y."), many(1), api.ErrMapping}, {own, long, many(1), api.ErrMapping}, {own, long, nil, api.ErrMapping}, {own, sample.Base("Xaaaaaaaaaaaaaaaaaaaaa sub Y."), many(1), api.OK},
		{own, other, sample.Axioms("open A sub p:X. A same some p:r everything. some r p:X sub C."), api.OK}, {own, other, sample.Axioms("role r sub p:r."), api.OK}, {own, other, sample.Axioms("private role r sub p:r."), api.ErrSecret}, {sample.Base("chain r s sub t."), other, sample.Axioms("role t sub p:t. role p:t sub s."), api.ErrCircle}, {own, api.Base{}, many(1), api.OK},
	} {
		if x.e == api.OK || x.e == api.ErrSecret || x.e == api.ErrCircle {
			b, _ := base.New(x.maps)
			if len(b.Axioms) > 0 {
				x.maps = b.Axioms
			} else {
				slices.SortFunc(x.maps, terms.CompareAxiom)
			}
		}
		if y, e := mapping.Join(x.own, x.other, x.maps); e != x.e || (e == api.OK) != (len(y.Axioms) > 0) {
			t.Errorf("case %d: %d, want %d", k, e, x.e)
		}
		if l, e := mapping.Gains(x.own, x.other, x.maps); e != x.e || e != api.OK && l != nil {
			t.Errorf("case %d: %d, want %d", k, e, x.e)
		}
		want := x.e
		if len(x.maps) > 12 && want == api.OK {
			want = api.ErrLimit
		}
		if l, e := mapping.Fewest(x.own, x.other, x.maps); e != want || e != api.OK && l != nil {
			t.Errorf("case %d: %d, want %d", k, e, want)
		}
	}
}

func show(l []api.Axiom) string {
	var s []string
	for _, a := range l {
		x, _ := printer.Axiom(a)
		s = append(s, x)
	}
	return strings.Join(s, "; ")
}

// P34.2
func TestGains(t *testing.T) {
	for _, x := range []struct{ own, other, maps, gains, fewest string }{
		{"A sub C. B sub C.", "X sub Y.", "A sub p:X. p:Y sub B.", "A sub B", "[0]"}, {"A sub B.", "C sub E. D sub E.", "A same p:C. B same p:D.", "p:C sub p:D", "[0]"}, {"A sub B.", "X sub Y.", "A sub p:X.", "", ""}, {"A sub B.", "X sub Y.", "p:Y sub A. B sub p:X.", "B sub A; p:Y sub p:X", "[0]"}, {"role r sub s. role q sub s.", "role x sub y.", "role r sub p:x. role p:y sub q.", "private role r sub q", "[0]"}, {"A sub B.", "X sub nothing.", "A sub p:X.", "A sub nothing", "[0]"},
		{"A sub B. p:Q sub A.", "X sub Y.", "B sub p:X. A sub p:Y.", "", ""}, {"A sub B. type a A.", "X sub Y. type x X.", "open B sub p:X.", "", ""}, {"A sub Z. B sub Z. C sub Z.", "X sub Y.", "A sub p:X. C sub p:X. p:Y sub B.", "A sub B; C sub B", "[2]"},
	} {
		own, other := sample.Base(x.own), sample.Base(x.other)
		m, _ := base.New(sample.Axioms(x.maps))
		l, e := mapping.Gains(own, other, m.Axioms)
		if e != api.OK || show(l) != x.gains {
			t.Errorf("%v: %s, %d", x, show(l), e)
		}
		out, e := mapping.Fewest(own, other, m.Axioms)
		got := ""
		if len(out) > 0 {
			got = "[" + strconv.Itoa(out[0]) + "]"
		}
		if e != api.OK || got != x.fewest || len(out) > 1 {
			t.Errorf("%v: %v, %d", x, out, e)
		}
		joined, e := mapping.Join(own, other, m.Axioms)
		if e != api.OK || len(joined.Axioms) != len(own.Axioms)+len(other.Axioms)+len(m.Axioms) {
			t.Errorf("%v: %v, %d", x, joined, e)
		}
	}
	joined, e := mapping.Join(sample.Base("A sub B."), sample.Base("open X and some r {x} sub f in 1 to 2. link x r y. chain r r sub r. type x X."), sample.Axioms("A sub p:X."))
	if want := sample.Base("A sub B. open p:X and some p:r {p:x} sub p:f in 1 to 2. link p:x p:r p:y. chain p:r p:r sub p:r. type p:x p:X. A sub p:X."); e != api.OK || !base.Same(joined, want) {
		t.Error(show(joined.Axioms), e)
	}
	var concepts []api.Axiom
	for i := range 256 {
		concepts = append(concepts, sample.Axiom("A"+strconv.Itoa(i)+" sub A"))
	}
	big, _ := base.New(concepts)
	if l, e := mapping.Gains(big, api.Base{}, sample.Axioms("A sub p:X.")); e != api.ErrLimit || l != nil {
		t.Error(e)
	}
	if l, e := mapping.Gains(api.Base{}, big, sample.Axioms("A sub p:X.")); e != api.ErrLimit || l != nil {
		t.Error(e)
	}
}

// P34.3
func TestAccept(t *testing.T) {
	own, other := sample.Base("A sub C. B sub C. A sub p:X."), sample.Base("X sub Y.")
	a := sign(other, "open A sub p:X.")
	x, e := mapping.Accept(own, other, a)
	if want := sample.Base("A sub C. B sub C. open A sub p:X. p:X sub p:Y."); e != api.OK || !base.Same(x, want) {
		t.Error(x, e)
	}
	if x, e := mapping.Accept(own, other, sign(other, "p:Y sub B. A sub p:X.")); e != api.ErrGain || x.Axioms != nil {
		t.Error(e)
	}
	secret := sign(other, "role r sub p:r.")
	secret.Axioms[0].Open = false
	body, _ := mapping.Body(secret)
	k, _ := signing.New([]byte("owner"), 4)
	_, secret.Sig, _ = signing.Sign(k, body)
	if x, e := mapping.Accept(own, other, secret); e != api.ErrSecret || x.Axioms != nil {
		t.Error(e)
	}
}

// P34.2 and P34.4
func TestConsequences(t *testing.T) {
	r := rand.New(rand.NewSource(1))
	owns, others := sample.Axioms("A sub B. B sub C. C sub D. type a A. role r sub s. A disjoint D. some r A sub B."), sample.Axioms("X sub Y. Y sub Z. Z sub some q X. role q sub u. X disjoint Z. link x q y.")
	pool := sample.Axioms("A sub p:X. p:Y sub B. C same p:Z. role r sub p:q. role p:u sub s. p:Z sub A. D sub some p:q p:X. some r p:Y sub D.")
	pick := func(l []api.Axiom, n int) api.Base {
		var x []api.Axiom
		for _, a := range l {
			if r.Intn(n) == 0 {
				x = append(x, a)
			}
		}
		b, _ := base.New(x)
		return b
	}
	for range 60 {
		own, other, m := pick(owns, 2), pick(others, 2), pick(pool, 2)
		if len(m.Axioms) == 0 {
			continue
		}
		gains, e := mapping.Gains(own, other, m.Axioms)
		if e != api.OK {
			t.Fatal(e)
		}
		less, e := mapping.Gains(own, other, m.Axioms[:1])
		if e != api.OK {
			t.Fatal(e)
		}
		for _, a := range less {
			if !slices.ContainsFunc(gains, func(b api.Axiom) bool { return terms.CompareAxiom(a, b) == 0 }) {
				t.Fatal("fewer mappings win more", a)
			}
		}
		joined, _ := mapping.Join(own, other, m.Axioms)
		n, _ := terms.Vocabulary(own.Axioms)
		before, _ := differ.Conclusions(own, n)
		after, _ := differ.Conclusions(joined, n)
		for _, a := range after {
			had := slices.ContainsFunc(before, func(b api.Axiom) bool { return terms.CompareAxiom(a, b) == 0 })
			won := slices.ContainsFunc(gains, func(b api.Axiom) bool { return terms.CompareAxiom(a, b) == 0 })
			if (a.Kind == api.SubA || a.Kind == api.RoleSubA) && had == won {
				t.Fatal(own, other, m, a)
			}
		}
		out, e := mapping.Fewest(own, other, m.Axioms)
		wins := func(out []int) bool {
			var rest []api.Axiom
			for i, a := range m.Axioms {
				if !slices.Contains(out, i) {
					rest = append(rest, a)
				}
			}
			l, e := mapping.Gains(own, other, rest)
			return len(rest) > 0 && (e != api.OK || len(l) > 0)
		}
		if e != api.OK || wins(out) {
			t.Fatal(own, other, m, out, e)
		}
		for bits := range 1 << len(m.Axioms) {
			var set []int
			for i := range m.Axioms {
				if bits>>i&1 == 1 {
					set = append(set, i)
				}
			}
			first := len(set) < len(out) || len(set) == len(out) && slices.Compare(set, out) < 0
			if first && len(m.Axioms) < 6 && !wins(set) {
				t.Fatal("not the fewest", out, set)
			}
		}
	}
}

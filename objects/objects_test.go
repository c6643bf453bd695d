package objects_test

import (
	"bytes"
	"math"
	"math/rand"
	"reflect"
	"slices"
	"strings"
	"testing"

	"veilstone/api"
	"veilstone/digest"
	"veilstone/objects"
	"veilstone/sample"
	"veilstone/terms"
)

// count, text, number and the functions below write encodings by hand.
func count(n int) []byte   { return []byte{byte(n >> 24), byte(n >> 16), byte(n >> 8), byte(n)} }
func text(s string) []byte { return append(count(len(s)), s...) }
func number(n int) []byte {
	return append(count(int(uint64(n)>>32)), count(int(uint32(n)))...)
}
func cat(l ...[]byte) []byte { return bytes.Join(l, nil) }

func concept(c api.Concept) []byte {
	b := cat([]byte{byte(c.Kind)}, text(c.Name), number(c.Lo), number(c.Hi), count(len(c.Parts)))
	for _, p := range c.Parts {
		b = append(b, concept(p)...)
	}
	return b
}

func axiom(a api.Axiom) []byte {
	open := byte(0)
	if a.Open {
		open = 1
	}
	b := cat([]byte{byte(a.Kind), open}, concept(a.Left), concept(a.Right), count(len(a.Roles)))
	for _, r := range a.Roles {
		b = append(b, text(r)...)
	}
	return cat(b, text(a.Role), text(a.A), text(a.B))
}

const many = "open A and some r {b} sub f in -5 to 1099511627776. A same nothing. domain r everything. role r sub s. chain r s t u sub v. reflexive p:r. type a A. open link a r b. A disjoint B."

func same(a, b api.Axiom) bool { return a.Open == b.Open && terms.CompareAxiom(a, b) == 0 }

// P28.1
func TestAxioms(t *testing.T) {
	l := sample.Axioms(many)
	want := count(len(l))
	for _, a := range l {
		want = append(want, axiom(a)...)
	}
	b, e := objects.Axioms(l)
	if e != api.OK || !bytes.Equal(b, want) {
		t.Error(b, e)
	}
	back, e := objects.ReadAxioms(b)
	if e != api.OK || !slices.EqualFunc(l, back, same) {
		t.Error(back, e)
	}
	if b, e := objects.Axioms(nil); e != api.OK || !bytes.Equal(b, count(0)) {
		t.Error(b, e)
	}
	one := sample.Axiom("A sub B")
	for k, x := range []struct {
		l []api.Axiom
		e api.Errno
	}{{slices.Repeat([]api.Axiom{one}, 1024), api.OK}, {slices.Repeat([]api.Axiom{one}, 1025), api.ErrLimit}, {append(slices.Repeat([]api.Axiom{one}, 1025), api.Axiom{}), api.ErrAxiom}, {[]api.Axiom{one, {Kind: api.ReflexiveA}, {}}, api.ErrName}} {
		if b, e := objects.Axioms(x.l); e != x.e || e != api.OK && b != nil {
			t.Error(k, e)
		}
	}
	var deep []byte
	for range 100000 {
		deep = append(deep, concept(api.Concept{Kind: 6, Name: "r", Parts: []api.Concept{{}}})[:26]...)
	}
	for k, b := range [][]byte{nil, {0, 0, 0, 0, 0}, {0, 0, 0}, count(1), want[:len(want)-1], append(slices.Clone(want), 0), cat(count(1025), bytes.Repeat(axiom(one), 1025)), cat(count(1), axiom(api.Axiom{Kind: 1})), count(-1), cat(count(1), []byte{1, 0}, deep)} {
		if l, e := objects.ReadAxioms(b); e != api.ErrObject || l != nil {
			t.Error(k, e)
		}
	}
	odd := cat(count(1), axiom(one))
	odd[5] = 2 // open is 0 or 1
	if l, e := objects.ReadAxioms(odd); e != api.ErrObject || l != nil {
		t.Error(e)
	}
}

// P28.1
func TestID(t *testing.T) {
	b := sample.Base("A sub B. open type a A.")
	enc, _ := objects.Axioms(b.Axioms)
	d, e := objects.ID(b)
	if e != api.OK || d != digest.Tagged("base", enc) {
		t.Error(d, e)
	}
	if other, _ := objects.ID(sample.Base("open A sub B. open type a A.")); other == d {
		t.Error("Open does not matter")
	}
	if d, e := objects.ID(api.Base{Axioms: sample.Axioms("B sub A. A sub B.")}); e != api.ErrOrder || d != (api.Digest{}) {
		t.Error(e)
	}
	empty := digest.Tagged("base", count(0))
	if d, e := objects.ID(api.Base{}); e != api.OK || d != empty {
		t.Error(e)
	}
	if d, e := objects.ID(api.Base{Axioms: []api.Axiom{}}); e != api.OK || d != empty {
		t.Error(e)
	}
}

// P28.2
func TestCommit(t *testing.T) {
	c := api.Commit{No: 7, Parents: []int{3, 1}, Base: api.Digest{1, 2, 31: 9}, Message: "a\x00b"}
	want := cat(number(7), count(2), number(3), number(1), c.Base[:], text("a\x00b"))
	b, e := objects.Commit(c)
	if e != api.OK || !bytes.Equal(b, want) {
		t.Error(b, e)
	}
	back, e := objects.ReadCommit(b)
	if e != api.OK || !reflect.DeepEqual(back, c) {
		t.Error(back, e)
	}
	long := strings.Repeat("x", api.MaxSource)
	for k, x := range []struct {
		c api.Commit
		e api.Errno
	}{
		{api.Commit{No: 1}, api.OK}, {api.Commit{No: 1024, Parents: []int{1023}, Message: long}, api.OK}, {api.Commit{No: 1, Message: long + "x"}, api.ErrLimit}, {api.Commit{Message: long + "x"}, api.ErrArg}, {api.Commit{No: 1025}, api.ErrArg}, {api.Commit{No: -1}, api.ErrArg}, {api.Commit{No: 5, Parents: []int{1, 2, 3}}, api.ErrArg}, {api.Commit{No: 5, Parents: []int{5}}, api.ErrArg}, {api.Commit{No: 5, Parents: []int{0}}, api.ErrArg}, {api.Commit{No: 5, Parents: []int{2, 2}}, api.ErrArg}, {api.Commit{No: 5, Parents: []int{1, 5}}, api.ErrArg},
	} {
		b, e := objects.Commit(x.c)
		if e != x.e || e != api.OK && b != nil {
			t.Error(k, e)
		}
		if back, e2 := objects.ReadCommit(b); e == api.OK && (e2 != api.OK || back.No != x.c.No || back.Message != x.c.Message) {
			t.Error(k, e2)
		}
	}
	for k, b := range [][]byte{nil, want[:len(want)-1], append(slices.Clone(want), 0), cat(number(2), count(2), number(1), number(1), c.Base[:], text("")), cat(number(0), count(0), c.Base[:], text("")), number(1)} {
		if c, e := objects.ReadCommit(b); e != api.ErrObject || !reflect.DeepEqual(c, api.Commit{}) {
			t.Error(k, e)
		}
	}
}

// P28.2
func TestQuery(t *testing.T) {
	q := sample.Query("select ?x where A(?x) and r(?x, b) or f(?x) in -1 to 2")
	want := cat(count(1), text("?x"), count(2), count(2), []byte{1}, text("A"), text("?x"), text(""), number(0), number(0), []byte{2}, text("r"), text("?x"), text("b"), number(0), number(0), count(1), []byte{3}, text("f"), text("?x"), text(""), number(-1), number(2))
	b, e := objects.Query(q)
	if e != api.OK || !bytes.Equal(b, want) {
		t.Error(b, e)
	}
	back, e := objects.ReadQuery(b)
	if e != api.OK || !reflect.DeepEqual(back, q) {
		t.Error(back, e)
	}
	if b, e := objects.Query(api.Query{}); e != api.ErrQuery || b != nil {
		t.Error(e)
	}
	for k, b := range [][]byte{nil, {0, 0, 0, 0, 0, 0, 0, 0}, want[:len(want)-1], append(slices.Clone(want), 7), cat(count(0), count(1), count(1), []byte{4}, text("A"), text("a"), text(""), number(0), number(0))} {
		if q, e := objects.ReadQuery(b); e != api.ErrObject || q.Parts != nil {
			t.Error(k, e)
		}
	}
}

// P28.3
func TestAlignment(t *testing.T) {
	a := api.Alignment{Name: "x y", Base: api.Digest{1}, Axioms: sample.Axioms("A sub p:B. role r sub p:r."), Public: api.Digest{2}, Sig: api.Signature{Index: -3, Parts: []api.Digest{{4}, {5}}, Path: []api.Digest{{6}}}}
	axioms, _ := objects.Axioms(a.Axioms)
	want := cat(text("x y"), a.Base[:], axioms, a.Public[:], number(-3), count(2), a.Sig.Parts[0][:], a.Sig.Parts[1][:], count(1), a.Sig.Path[0][:])
	b, e := objects.Alignment(a)
	if e != api.OK || !bytes.Equal(b, want) {
		t.Error(b, e)
	}
	back, e := objects.ReadAlignment(b)
	if e != api.OK || !slices.EqualFunc(back.Axioms, a.Axioms, same) || !reflect.DeepEqual(back.Sig, a.Sig) || back.Name != a.Name || back.Base != a.Base || back.Public != a.Public {
		t.Error(back, e)
	}
	name := strings.Repeat("n", 24)
	maps := slices.Repeat(a.Axioms[:1], 128)
	digests := make([]api.Digest, 256)
	for k, x := range []struct {
		a api.Alignment
		e api.Errno
	}{
		{api.Alignment{}, api.OK}, {api.Alignment{Name: name, Axioms: maps, Sig: api.Signature{Index: math.MaxInt, Parts: digests, Path: digests}}, api.OK}, {api.Alignment{Name: name + "n", Axioms: []api.Axiom{{}}}, api.ErrArg}, {api.Alignment{Axioms: append(slices.Repeat(maps, 2), api.Axiom{})}, api.ErrAxiom}, {api.Alignment{Axioms: append(maps, maps[0])}, api.ErrLimit}, {api.Alignment{Sig: api.Signature{Parts: append(digests, api.Digest{})}}, api.ErrLimit}, {api.Alignment{Sig: api.Signature{Path: append(digests, api.Digest{})}}, api.ErrLimit},
	} {
		b, e := objects.Alignment(x.a)
		if e != x.e || e != api.OK && b != nil {
			t.Error(k, e)
		}
		if back, e2 := objects.ReadAlignment(b); e == api.OK && (e2 != api.OK || back.Name != x.a.Name || len(back.Sig.Path) != len(x.a.Sig.Path)) {
			t.Error(k, e2)
		}
	}
	for k, b := range [][]byte{nil, want[:len(want)-1], append(slices.Clone(want), 0), text(name)} {
		if a, e := objects.ReadAlignment(b); e != api.ErrObject || a.Axioms != nil {
			t.Error(k, e)
		}
	}
}

// P28.4: what is changed at random is refused, or is the encoding of another value.
func TestConsequences(t *testing.T) {
	r := rand.New(rand.NewSource(1))
	axioms, _ := objects.Axioms(sample.Axioms(many))
	q, _ := objects.Query(sample.Query("select ?x where A(?x) and r(?x, b) or f(?x) in -1 to 2"))
	c, _ := objects.Commit(api.Commit{No: 3, Parents: []int{1, 2}, Message: "m"})
	a, _ := objects.Alignment(api.Alignment{Name: "n", Axioms: sample.Axioms("A sub p:B."), Sig: api.Signature{Parts: make([]api.Digest, 2)}})
	for k, x := range []struct {
		b    []byte
		back func(b []byte) ([]byte, api.Errno)
	}{
		{axioms, func(b []byte) ([]byte, api.Errno) {
			l, e := objects.ReadAxioms(b)
			if e != api.OK {
				return nil, e
			}
			return objects.Axioms(l)
		}},
		{q, func(b []byte) ([]byte, api.Errno) {
			q, e := objects.ReadQuery(b)
			if e != api.OK {
				return nil, e
			}
			return objects.Query(q)
		}},
		{c, func(b []byte) ([]byte, api.Errno) {
			c, e := objects.ReadCommit(b)
			if e != api.OK {
				return nil, e
			}
			return objects.Commit(c)
		}},
		{a, func(b []byte) ([]byte, api.Errno) {
			a, e := objects.ReadAlignment(b)
			if e != api.OK {
				return nil, e
			}
			return objects.Alignment(a)
		}},
	} {
		for n := range x.b {
			if _, e := x.back(x.b[:n]); e != api.ErrObject {
				t.Fatal(k, "the beginning is accepted", n)
			}
		}
		for range 3000 {
			b := slices.Clone(x.b)
			b[r.Intn(len(b))] = byte(r.Intn(256))
			if again, e := x.back(b); e == api.OK && !bytes.Equal(again, b) {
				t.Fatal(k, b)
			}
		}
	}
}

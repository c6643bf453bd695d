package ledger_test

import (
	"bytes"
	"math/rand"
	"reflect"
	"slices"
	"strconv"
	"strings"
	"testing"

	"veilstone/api"
	"veilstone/ledger"
	"veilstone/objects"
	"veilstone/query"
	"veilstone/sample"
)

// entries makes a ledger of ann with canonical parts.
func entries(parts ...string) api.Ledger {
	l := api.Ledger{Reader: "ann", Version: 1}
	for i, p := range parts {
		q, _ := query.Rename(api.Query{Parts: []api.Part{sample.Part(p)}})
		l.Entries = append(l.Entries, api.Entry{No: i + 1, Part: q.Parts[0]})
	}
	return l
}

func full(n int) (l api.Ledger) {
	var parts []string
	for i := range n {
		parts = append(parts, "A(a"+strconv.Itoa(i)+")")
	}
	return entries(parts...)
}

// P38.1
func TestNew(t *testing.T) {
	for _, x := range []struct {
		reader  string
		version int
		e       api.Errno
	}{{"ann", 1, api.OK}, {"ann", 1024, api.OK}, {"", 1, api.ErrArg}, {"ann", 0, api.ErrArg}, {"ann", 1025, api.ErrArg}, {"ann", -1, api.ErrArg}, {"_ann", 1, api.ErrArg}, {"p:ann", 1, api.ErrArg}, {"and", 1, api.ErrArg}} {
		want := api.Ledger{Reader: x.reader, Version: x.version}
		if x.e != api.OK {
			want = api.Ledger{}
		}
		if l, e := ledger.New(x.reader, x.version); e != x.e || !reflect.DeepEqual(l, want) {
			t.Error(x, l, e)
		}
	}
}

// P38.1
func TestCheck(t *testing.T) {
	change := func(l api.Ledger, f func(l *api.Ledger)) api.Ledger {
		l.Entries = slices.Clone(l.Entries)
		f(&l)
		return l
	}
	good := entries("A(?x)", "B(a)", "r(?x, ?y) and A(?y)")
	for k, x := range []struct {
		l api.Ledger
		e api.Errno
	}{
		{good, api.OK}, {entries(), api.OK}, {full(1024), api.OK}, {full(1025), api.ErrLimit}, {change(full(1025), func(l *api.Ledger) { l.Reader = "" }), api.ErrArg}, {change(good, func(l *api.Ledger) { l.Version = 0; l.Entries[0].No = 7 }), api.ErrArg}, {change(good, func(l *api.Ledger) { l.Entries[0].No = 2 }), api.ErrLedger}, {change(good, func(l *api.Ledger) { l.Entries[1].Part = api.Part{}; l.Entries[2].No = 9 }), api.ErrQuery}, {change(good, func(l *api.Ledger) { l.Entries[1].No = 9; l.Entries[1].Part = api.Part{} }), api.ErrLedger}, {change(good, func(l *api.Ledger) { l.Entries[1].Part = sample.Part("A(?x)") }), api.ErrLedger}, {change(good, func(l *api.Ledger) { l.Entries[1].Part = good.Entries[0].Part }), api.ErrLedger}, {change(good, func(l *api.Ledger) { l.Entries[1].Part = sample.Part("B(a) and A(a)") }), api.ErrLedger}, {change(good, func(l *api.Ledger) {
			l.Entries[1].Part = api.Part{Atoms: []api.Atom{{Kind: 1, Name: "_A", X: "a"}}}
		}), api.ErrName},
	} {
		if e := ledger.Check(x.l); e != x.e {
			t.Errorf("case %d: %d, want %d", k, e, x.e)
		}
	}
}

// P38.2
func TestAddFind(t *testing.T) {
	l := entries("A(?x)", "B(a)")
	x, no, e := ledger.Add(l, sample.Part("r(?u, ?v) and A(?v) and r(?u, ?v)"))
	if want := entries("A(?x)", "B(a)", "A(?a) and r(?b, ?a)"); e != api.OK || no != 3 || !reflect.DeepEqual(x, want) || len(l.Entries) != 2 {
		t.Error(x, no, e)
	}
	again, no, e := ledger.Add(x, sample.Part("A(?other)"))
	if e != api.OK || no != 1 || !reflect.DeepEqual(again, x) {
		t.Error(again, no, e)
	}
	y, _, _ := ledger.Add(l, sample.Part("C(c)"))
	if !slices.Equal(x.Entries[2].Part.Atoms, entries("A(?a) and r(?b, ?a)").Entries[0].Part.Atoms) || y.Entries[2].Part.Atoms[0].Name != "C" {
		t.Error("two ledgers share an entry", x, y)
	}
	for k, v := range []struct {
		l api.Ledger
		p api.Part
		e api.Errno
	}{{api.Ledger{}, api.Part{}, api.ErrArg}, {l, api.Part{}, api.ErrQuery}, {full(1024), api.Part{}, api.ErrQuery}, {full(1024), sample.Part("A(b)"), api.ErrLedger}} {
		if x, no, e := ledger.Add(v.l, v.p); e != v.e || no != 0 || x.Reader != "" {
			t.Error(k, e)
		}
	}
	if x, no, e := ledger.Add(full(1024), sample.Part("A(a7)")); e != api.OK || no != 8 || len(x.Entries) != 1024 {
		t.Error(no, e)
	}
	odd := api.Ledger{Entries: []api.Entry{{No: 77, Part: sample.Part("A(?v1)")}, {No: 5, Part: sample.Part("A(?v1)")}, {No: 6, Part: sample.Part("A(?x) and B(?x)")}}}
	for _, x := range []struct {
		l  api.Ledger
		p  api.Part
		no int
		ok bool
	}{{odd, sample.Part("A(?z)"), 77, true}, {odd, sample.Part("A(?x) and B(?x)"), 0, false}, {odd, api.Part{}, 0, false}, {l, sample.Part("B(a) and B(a)"), 2, true}, {l, sample.Part("B(b)"), 0, false}, {api.Ledger{}, sample.Part("B(b)"), 0, false}, {api.Ledger{Entries: []api.Entry{{No: 1}}}, api.Part{}, 0, false}} {
		if no, ok := ledger.Find(x.l, x.p); no != x.no || ok != x.ok {
			t.Error(x.p, no, ok)
		}
	}
	for l, want := range map[int]int{0: 1024, 1: 1023, 1024: 0, 1025: 0} {
		if n := ledger.Left(api.Ledger{Entries: make([]api.Entry, l)}); n != want {
			t.Error(l, n)
		}
	}
}

// P38.3
func TestEncode(t *testing.T) {
	x := api.Entry{No: 258, Part: sample.Part("B(?x) and A(a)")}
	q, _ := objects.Query(api.Query{Parts: []api.Part{x.Part}})
	want := append([]byte{0, 0, 0, 3, 'a', 'n', 'n', 0, 0, 0, 0, 0, 0, 0, 7, 0, 0, 0, 0, 0, 0, 1, 2}, q...)
	b, e := ledger.Encode("ann", 7, x)
	if e != api.OK || !bytes.Equal(b, want) {
		t.Error(b, e)
	}
	reader, version, y, e := ledger.Decode(b)
	if e != api.OK || reader != "ann" || version != 7 || !reflect.DeepEqual(x, y) {
		t.Error(reader, version, y, e)
	}
	for k, v := range []struct {
		reader  string
		version int
		x       api.Entry
		e       api.Errno
	}{{"", 1, x, api.ErrArg}, {"ann", 0, x, api.ErrArg}, {"ann", 1025, x, api.ErrArg}, {"ann", 1, api.Entry{}, api.ErrArg}, {"ann", 1, api.Entry{No: 1025}, api.ErrArg}, {"ann", 1, api.Entry{No: 1}, api.ErrQuery}, {strings.Repeat("a", 24), 1024, api.Entry{No: 1024, Part: x.Part}, api.OK}} {
		b, e := ledger.Encode(v.reader, v.version, v.x)
		if e != v.e || e != api.OK && b != nil {
			t.Error(k, e)
		}
		if reader, _, _, e2 := ledger.Decode(b); e == api.OK && (e2 != api.OK || reader != v.reader) {
			t.Error(k, e2)
		}
	}
	two, _ := objects.Query(sample.Query("select where A(a) or B(a)"))
	told, _ := objects.Query(sample.Query("select ?x where A(?x)"))
	bad := [][]byte{nil, append(slices.Clone(want), 0), append(slices.Clone(want[:23]), two...), append(slices.Clone(want[:23]), told...)}
	for n := range want {
		bad = append(bad, want[:n])
	}
	r := rand.New(rand.NewSource(1))
	for range 3000 {
		c := slices.Clone(want)
		c[r.Intn(len(c))] = byte(r.Intn(256))
		reader, version, y, e := ledger.Decode(c)
		if e == api.OK {
			if again, e := ledger.Encode(reader, version, y); e != api.OK || !bytes.Equal(again, c) {
				t.Fatal(c)
			}
		}
	}
	for k, b := range bad {
		if reader, version, y, e := ledger.Decode(b); e != api.ErrLedger || reader != "" || version != 0 || y.No != 0 || y.Part.Atoms != nil {
			t.Error(k, e)
		}
	}
}

// P38.3
func TestBefore(t *testing.T) {
	l := entries("A(?x)", "B(a)")
	other := entries("A(?x)", "B(b)")
	version := l
	version.Version = 2
	numbered := entries("A(?x)")
	numbered.Entries[0].No = 2
	for k, x := range []struct {
		a, b api.Ledger
		want bool
	}{{entries(), l, true}, {l, l, true}, {entries("A(?x)"), l, true}, {l, entries("A(?x)"), false}, {l, other, false}, {version, l, false}, {api.Ledger{Reader: "bob", Version: 1}, l, false}, {numbered, l, false}, {api.Ledger{}, api.Ledger{Entries: []api.Entry{{No: 9}}}, true}} {
		if ledger.Before(x.a, x.b) != x.want {
			t.Error(k)
		}
	}
}

// P38.4
func TestConsequences(t *testing.T) {
	r := rand.New(rand.NewSource(1))
	names := []string{"?a", "?b", "?c", "a"}
	l := entries()
	rename := strings.NewReplacer("?a", "?z", "?b", "?a", "?c", "?w")
	for range 400 {
		var p, q api.Part
		for range 1 + r.Intn(3) {
			a := api.Atom{Kind: api.RoleQ, Name: []string{"r", "s"}[r.Intn(2)], X: names[r.Intn(4)], Y: names[r.Intn(4)]}
			p.Atoms = append(p.Atoms, a)
			a.X, a.Y = rename.Replace(a.X), rename.Replace(a.Y)
			q.Atoms = append([]api.Atom{a}, q.Atoms...)
		}
		x, no, e := ledger.Add(l, p)
		if e != api.OK || !ledger.Before(l, x) {
			t.Fatal(p, e)
		}
		if n, ok := ledger.Find(x, q); !ok || n != no {
			t.Fatal(p, q, n, ok)
		}
		y, again, e := ledger.Add(x, q)
		if e != api.OK || again != no || !ledger.Before(y, x) {
			t.Fatal("added twice", p)
		}
		l = x
	}
	if ledger.Check(l) != api.OK || len(l.Entries) < 20 {
		t.Error(len(l.Entries))
	}
}

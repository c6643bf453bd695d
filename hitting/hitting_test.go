package hitting_test

import (
	"cmp"
	"fmt"
	"math/rand"
	"reflect"
	"slices"
	"testing"

	"veilstone/api"
	"veilstone/hitting"
)

func sets(l ...[]int) [][]int { return l }
func set(l ...int) []int      { return l }

func equal(a, b [][]int) bool { return slices.EqualFunc(a, b, slices.Equal[[]int]) }

func compare(a, b []int) int { return cmp.Or(cmp.Compare(len(a), len(b)), slices.Compare(a, b)) }

var invalid = [][][]int{sets(set(2, 1)), sets(set(1, 1)), sets(set(-1)), sets(set(1024)), sets(set(1), set(3, 2))}

// P16.1
func TestMinimalHits(t *testing.T) {
	for _, x := range []struct{ l, want [][]int }{
		{nil, nil}, {sets(set(1, 2), set(2), set(1, 3)), sets(set(2), set(1, 3))}, {sets(set(1), set(1)), sets(set(1))}, {sets(set(0, 1023), set()), sets(set())}, {sets(set(3, 4), set(1, 9), set(5)), sets(set(5), set(1, 9), set(3, 4))}, {sets(set(1, 2, 3), set(1, 3)), sets(set(1, 3))},
	} {
		if m, e := hitting.Minimal(x.l); e != api.OK || !equal(m, x.want) {
			t.Error(x.l, m, e)
		}
	}
	for _, l := range invalid {
		if m, e := hitting.Minimal(l); e != api.ErrArg || m != nil {
			t.Error(l, m, e)
		}
	}
	for _, x := range []struct {
		l    [][]int
		s    []int
		want bool
	}{{nil, nil, true}, {nil, set(5), true}, {sets(set()), set(5), false}, {sets(set(1, 2), set(3)), set(3, 1), true}, {sets(set(1, 2), set(3)), set(1, 2), false}, {sets(set(9, -7, 9)), set(4, 4, -7), true}} {
		if hitting.Hits(x.l, x.s) != x.want {
			t.Error(x)
		}
	}
}

// P16.2
func TestAll(t *testing.T) {
	var pairs, triples [][]int
	for i := range 8 {
		pairs = append(pairs, set(2*i, 2*i+1))
		triples = append(triples, set(3*i, 3*i+1, 3*i+2))
	}
	for k, x := range []struct {
		l    [][]int
		most int
		want int
		e    api.Errno
	}{
		{nil, 1, 1, api.OK}, {nil, 0, 0, api.ErrLimit}, {sets(set()), 0, 0, api.OK}, {sets(set(1, 2), set()), 5, 0, api.OK}, {pairs, 256, 256, api.OK}, {pairs, 255, 0, api.ErrLimit}, {triples, 256, 0, api.ErrLimit}, {nil, -1, 0, api.ErrArg}, {nil, 257, 0, api.ErrArg}, {invalid[0], 5, 0, api.ErrArg}, {append(slices.Clone(pairs), set(16, 17)), 256, 0, api.ErrLimit},
	} {
		if l, e := hitting.All(x.l, x.most); e != x.e || len(l) != x.want {
			t.Error(k, len(l), e)
		}
	}
	if l, e := hitting.All(sets(set(1, 2), set(2, 3)), 2); e != api.OK || !equal(l, sets(set(2), set(1, 3))) {
		t.Error(l, e)
	}
	// A long list of sets with a few hitting sets.
	var star [][]int
	for i := range 200 {
		star = append(star, set(0, i+1, i+300))
	}
	star = append(star, set(0))
	if l, e := hitting.All(star, 1); e != api.OK || !equal(l, sets(set(0))) {
		t.Error(l, e)
	}
}

// family returns random sets of small numbers.
func family(r *rand.Rand) (l [][]int) {
	for range r.Intn(6) {
		var s []int
		for n := range 6 {
			if r.Intn(3) == 0 {
				s = append(s, n)
			}
		}
		l = append(l, s)
	}
	return l
}

// P16.2 and P16.4: by trying all sets.
func TestAllRandom(t *testing.T) {
	r := rand.New(rand.NewSource(1))
	for range 3000 {
		l := family(r)
		var want [][]int
		for bits := range 64 {
			var s []int
			for n := range 6 {
				if bits>>n&1 == 1 {
					s = append(s, n)
				}
			}
			if !hitting.Hits(l, s) {
				continue
			}
			less := false
			for i := range s {
				less = less || hitting.Hits(l, slices.Delete(slices.Clone(s), i, i+1))
			}
			if !less {
				want = append(want, s)
			}
		}
		slices.SortFunc(want, compare)
		x, e := hitting.All(l, 256)
		if e != api.OK || !equal(x, want) {
			t.Fatal(l, x, want)
		}
		if _, e := hitting.All(l, len(want)); e != api.OK {
			t.Fatal(l, e)
		}
		if len(want) > 0 {
			if _, e := hitting.All(l, len(want)-1); e != api.ErrLimit {
				t.Fatal(l, e)
			}
		}
		twice, _ := hitting.All(x, 256)
		m, _ := hitting.Minimal(l)
		if !equal(twice, m) {
			t.Fatal(l, twice, m)
		}
	}
}

// P16.3
func TestGive(t *testing.T) {
	s := hitting.Begin()
	if hitting.Check(s) != api.OK || len(s.Found) != 0 || len(s.Open) != 1 || len(s.Open[0]) != 0 || s.Spent != 0 || s.Done {
		t.Error(s)
	}
	if out, ok := hitting.Next(s); len(out) != 0 || !ok {
		t.Error(out, ok)
	}
	x, e := hitting.Give(s, set(3, 5), false)
	if want := (api.Search{Found: sets(set(3, 5)), Open: sets(set(3), set(5)), Spent: 1}); e != api.OK || !reflect.DeepEqual(x, want) {
		t.Error(x, e)
	}
	y, e := hitting.Give(x, set(4), false)
	if want := (api.Search{Found: sets(set(4), set(3, 5)), Open: sets(set(5), set(3, 4)), Spent: 2}); e != api.OK || !reflect.DeepEqual(y, want) {
		t.Error(y, e)
	}
	// A set that is known, and branches that are open already.
	y, e = hitting.Give(y, set(4), false)
	if want := (api.Search{Found: sets(set(4), set(3, 5)), Open: sets(set(3, 4), set(4, 5)), Spent: 3}); e != api.OK || !reflect.DeepEqual(y, want) {
		t.Error(y, e)
	}
	z, e := hitting.Give(api.Search{Found: sets(set(3, 5), set(3, 7)), Open: sets(set(3), set(5, 7))}, set(5, 7), false)
	if want := (api.Search{Found: sets(set(3, 5), set(3, 7), set(5, 7)), Open: sets(set(5, 7), set(3, 5), set(3, 7)), Spent: 1}); e != api.OK || !reflect.DeepEqual(z, want) {
		t.Error(z, e)
	}
	y, e = hitting.Give(y, nil, true)
	y, e2 := hitting.Give(y, nil, true)
	if e != api.OK || e2 != api.OK || !y.Done || y.Spent != 5 || len(y.Open) != 0 || len(y.Found) != 2 || hitting.Check(y) != api.OK {
		t.Error(y, e, e2)
	}
	if out, ok := hitting.Next(y); out != nil || ok {
		t.Error(out, ok)
	}
	for k, v := range []struct {
		s    api.Search
		set  []int
		none bool
		e    api.Errno
	}{
		{y, nil, true, api.ErrArg}, {s, set(1), true, api.ErrArg}, {x, set(3), false, api.ErrArg}, {x, set(5), false, api.ErrArg}, {x, set(4, 5, 6), false, api.OK}, {x, set(), false, api.ErrArg}, {x, set(6, 4), false, api.ErrArg}, {x, set(1024), false, api.ErrArg}, {s, set(), false, api.OK}, {s, set(), true, api.OK}, {api.Search{}, nil, true, api.ErrArg},
		{api.Search{Found: sets(set(4, 5)), Open: sets(nil)}, set(4, 5, 6), false, api.ErrArg}, {api.Search{Found: sets(set(4, 5)), Open: sets(nil)}, set(4), false, api.ErrArg}, {api.Search{Found: sets(set(4, 5)), Open: sets(nil)}, set(4, 5), false, api.OK}, {api.Search{Open: sets(nil), Spent: 1 << 30}, nil, true, api.OK},
	} {
		w, e := hitting.Give(v.s, v.set, v.none)
		if e != v.e || e != api.OK && !reflect.DeepEqual(w, api.Search{}) || e == api.OK && w.Spent != v.s.Spent+1 {
			t.Error(k, w, e)
		}
	}
	if s.Spent != 0 || len(s.Open) != 1 || !equal(x.Open, sets(set(3), set(5))) {
		t.Error("the searches have changed", s, x)
	}
	if w, e := hitting.Give(s, set(), false); e != api.OK || !w.Done || !equal(w.Found, sets(set())) {
		t.Error(w, e)
	}
	// 256 sets.
	full := api.Search{Open: sets(nil)}
	for i := range 256 {
		full.Found = append(full.Found, set(i))
	}
	if w, e := hitting.Give(full, set(300), false); e != api.ErrLimit || w.Found != nil {
		t.Error(e)
	}
	if w, e := hitting.Give(full, set(30), false); e != api.OK || len(w.Found) != 256 {
		t.Error(e)
	}
	if _, e := hitting.Give(full, set(30, 300), false); e != api.ErrArg {
		t.Error(e)
	}
}

// P16.3
func TestCheck(t *testing.T) {
	for k, x := range []struct {
		s api.Search
		e api.Errno
	}{
		{api.Search{Done: true}, api.OK}, {api.Search{}, api.ErrArg}, {api.Search{Open: sets(nil), Done: true}, api.ErrArg}, {api.Search{Open: sets(set(1, 2), set(1, 3), set(2, 1023, 1023))}, api.ErrArg}, {api.Search{Open: sets(set(1, 2), set(1, 3), set(2, 5, 1023))}, api.OK}, {api.Search{Open: sets(set(1), set(1, 3), set(2, 5, 7))}, api.ErrArg}, {api.Search{Open: sets(set(1, 2), set(5))}, api.ErrArg}, {api.Search{Open: sets(set(5), set(5))}, api.ErrArg}, {api.Search{Open: sets(set(5), set(4))}, api.OK},
		{api.Search{Found: sets(set(1, 2), set(0)), Done: true}, api.ErrArg}, {api.Search{Found: sets(set(0), set(0)), Done: true}, api.ErrArg}, {api.Search{Found: sets(set(0), set(0, 1)), Done: true}, api.ErrArg}, {api.Search{Found: sets(set(0), set(1, 2), set(1, 3)), Done: true}, api.OK}, {api.Search{Found: sets(set(2, 1)), Done: true}, api.ErrArg}, {api.Search{Found: sets(set()), Done: true}, api.OK}, {api.Search{Spent: -1, Done: true}, api.ErrArg}, {api.Search{Spent: 1<<30 + 1, Done: true}, api.ErrArg}, {api.Search{Spent: 1 << 30, Done: true}, api.OK},
	} {
		if e := hitting.Check(x.s); e != x.e {
			t.Error(k, e)
		}
	}
	many := api.Search{Done: true}
	for i := range 257 {
		many.Found = append(many.Found, set(i))
	}
	if e := hitting.Check(many); e != api.ErrArg {
		t.Error(e)
	}
}

// P16.4
func TestSearch(t *testing.T) {
	r := rand.New(rand.NewSource(2))
	for range 500 {
		l := family(r)
		want, _ := hitting.Minimal(l)
		var ends [][]int
		s := hitting.Begin()
		for !s.Done {
			out, _ := hitting.Next(s)
			var fit [][]int
			for _, x := range want {
				if !hitting.Hits([][]int{x}, out) {
					fit = append(fit, x)
				}
			}
			var e api.Errno
			if len(fit) == 0 {
				ends = append(ends, out)
				s, e = hitting.Give(s, nil, true)
			} else {
				s, e = hitting.Give(s, fit[r.Intn(len(fit))], false)
			}
			if e != api.OK || hitting.Check(s) != api.OK {
				t.Fatal(l, s, e)
			}
		}
		if !equal(s.Found, want) {
			t.Fatal(l, s.Found, want)
		}
		hit, _ := hitting.All(l, 256)
		least, _ := hitting.Minimal(ends)
		if !equal(hit, least) {
			t.Fatal(fmt.Sprint(l, hit, least))
		}
	}
}

package interval_test

import (
	"math"
	"math/rand"
	"slices"
	"testing"

	"veilstone/api"
	"veilstone/interval"
)

const most = api.MaxNumber

func in(lo, hi int) api.Interval { return api.Interval{Lo: lo, Hi: hi} }

func list(n ...int) (l []api.Interval) {
	for i := 0; i < len(n); i += 2 {
		l = append(l, in(n[i], n[i+1]))
	}
	return l
}

// P8.1
func TestCheck(t *testing.T) {
	for i, want := range map[api.Interval]api.Errno{
		in(0, 0): api.OK, in(-most, most): api.OK, in(most, most): api.OK, in(3, 2): api.ErrInterval, in(most, -most): api.ErrInterval, in(0, most+1): api.ErrArg, in(-most-1, 0): api.ErrArg, in(most+1, 0): api.ErrArg, in(0, -most-1): api.ErrArg, in(math.MinInt, math.MaxInt): api.ErrArg,
	} {
		if e := interval.Check(i); e != want {
			t.Errorf("%v: %d", i, e)
		}
	}
}

// P8.1
func TestMeetHullWithin(t *testing.T) {
	for _, x := range []struct {
		a, b, meet, hull api.Interval
		e, e2            api.Errno
		within           bool
	}{
		{in(1, 5), in(4, 9), in(4, 5), in(1, 9), api.OK, api.OK, false}, {in(4, 9), in(1, 5), in(4, 5), in(1, 9), api.OK, api.OK, false}, {in(1, 2), in(3, 4), in(0, 0), in(1, 4), api.ErrInterval, api.OK, false}, {in(2, 3), in(1, 9), in(2, 3), in(1, 9), api.OK, api.OK, true}, {in(1, 9), in(1, 9), in(1, 9), in(1, 9), api.OK, api.OK, true}, {in(1, 9), in(1, 8), in(1, 8), in(1, 9), api.OK, api.OK, false}, {in(0, 8), in(1, 8), in(1, 8), in(0, 8), api.OK, api.OK, false}, {in(1, 3), in(3, 5), in(3, 3), in(1, 5), api.OK, api.OK, false},
		{in(1, 2), in(2, 1), in(0, 0), in(0, 0), api.ErrInterval, api.ErrInterval, false}, {in(2, 1), in(0, most+1), in(0, 0), in(0, 0), api.ErrInterval, api.ErrInterval, false}, {in(0, most+1), in(2, 1), in(0, 0), in(0, 0), api.ErrArg, api.ErrArg, false}, {in(2, 1), in(0, 5), in(0, 0), in(0, 0), api.ErrInterval, api.ErrInterval, false}, {in(0, 0), in(0, most+1), in(0, 0), in(0, 0), api.ErrArg, api.ErrArg, false},
	} {
		if m, e := interval.Meet(x.a, x.b); m != x.meet || e != x.e {
			t.Errorf("Meet %v: %v, %d", x, m, e)
		}
		if h, e := interval.Hull(x.a, x.b); h != x.hull || e != x.e2 {
			t.Errorf("Hull %v: %v, %d", x, h, e)
		}
		if interval.Within(x.a, x.b) != x.within {
			t.Errorf("Within %v", x)
		}
	}
}

// P8.2
func TestUnion(t *testing.T) {
	for _, x := range []struct {
		l, want []api.Interval
		e       api.Errno
	}{
		{nil, nil, api.OK}, {list(5, 6, 1, 2, 3, 3), list(1, 3, 5, 6), api.OK}, {list(1, 9, 2, 3, 9, 9), list(1, 9), api.OK}, {list(4, 5, 1, 2), list(1, 2, 4, 5), api.OK}, {list(-most, 0, 1, most), list(-most, most), api.OK}, {list(1, 2, 3, 2, 0, most+1), nil, api.ErrInterval}, {list(1, 2, 0, most+1, 3, 2), nil, api.ErrArg},
	} {
		if y, e := interval.Union(x.l); e != x.e || !slices.Equal(y, x.want) {
			t.Errorf("%v: %v, %d", x.l, y, e)
		}
	}
}

// P8.2
func TestInsideWithout(t *testing.T) {
	for _, x := range []struct {
		i      api.Interval
		l      []api.Interval
		inside bool
		rest   []api.Interval
		e      api.Errno
	}{
		{in(1, 1), nil, false, list(1, 1), api.OK}, {in(1, 3), list(5, 6, 1, 2, 3, 3), true, nil, api.OK}, {in(0, 9), list(5, 6, 1, 2, 3, 3), false, list(0, 0, 4, 4, 7, 9), api.OK}, {in(2, 5), list(1, 2, 5, 8), false, list(3, 4), api.OK}, {in(2, 5), list(6, 8, 0, 1), false, list(2, 5), api.OK}, {in(2, 5), list(0, 3), false, list(4, 5), api.OK}, {in(2, 5), list(4, 9), false, list(2, 3), api.OK},
		{in(2, 1), list(0, most+1), false, nil, api.ErrInterval}, {in(0, most+1), list(2, 1), false, nil, api.ErrArg}, {in(0, 1), list(0, 5, 2, 1), false, nil, api.ErrInterval},
	} {
		if ok, e := interval.Inside(x.i, x.l); e != x.e || ok != x.inside {
			t.Errorf("%v: %v, %d", x, ok, e)
		}
		if y, e := interval.Without(x.i, x.l); e != x.e || !slices.Equal(y, x.rest) {
			t.Errorf("%v: %v, %d", x, y, e)
		}
	}
}

// P8.2 and P8.3: by counting all integers.
func TestConsequences(t *testing.T) {
	r := rand.New(rand.NewSource(1))
	pick := func() api.Interval {
		lo := r.Intn(20)
		return in(lo, lo+r.Intn(5))
	}
	for range 5000 {
		var l []api.Interval
		for range r.Intn(6) {
			l = append(l, pick())
		}
		before := slices.Clone(l)
		u, _ := interval.Union(l)
		has := func(l []api.Interval, n int) bool {
			return slices.ContainsFunc(l, func(i api.Interval) bool { return i.Lo <= n && n <= i.Hi })
		}
		i := pick()
		rest, _ := interval.Without(i, l)
		inside, _ := interval.Inside(i, l)
		for n := -1; n < 30; n++ {
			if has(l, n) != has(u, n) || has(rest, n) != (has([]api.Interval{i}, n) && !has(l, n)) {
				t.Fatal(l, u, i, rest)
			}
		}
		for _, x := range [][]api.Interval{u, rest} {
			for k := 1; k < len(x); k++ {
				if x[k-1].Hi+1 >= x[k].Lo {
					t.Fatal("not separated", x)
				}
			}
		}
		one := slices.ContainsFunc(u, func(x api.Interval) bool { return interval.Within(i, x) })
		if inside != (len(rest) == 0) || inside != one || !slices.Equal(l, before) {
			t.Fatal(i, l, rest, inside)
		}
		r.Shuffle(len(l), func(i, k int) { l[i], l[k] = l[k], l[i] })
		again, _ := interval.Union(slices.Concat(l, l))
		twice, _ := interval.Union(u)
		if !slices.Equal(again, u) || !slices.Equal(twice, u) {
			t.Fatal(u, again, twice)
		}
		a, b := pick(), pick()
		m, e := interval.Meet(a, b)
		h, _ := interval.Hull(a, b)
		if e == api.OK && (!interval.Within(m, a) || !interval.Within(m, b)) || !interval.Within(a, h) || !interval.Within(b, h) {
			t.Fatal(a, b, m, h)
		}
		if interval.Within(i, a) && interval.Within(i, b) && !interval.Within(i, m) || interval.Within(a, i) && interval.Within(b, i) && !interval.Within(h, i) {
			t.Fatal(a, b, i, m, h)
		}
	}
}

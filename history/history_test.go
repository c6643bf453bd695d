package history_test

import (
	"fmt"
	"math/rand"
	"reflect"
	"slices"
	"strconv"
	"strings"
	"testing"

	"veilstone/api"
	"veilstone/history"
)

// commits makes a history from the parents of its commits.
func commits(parents ...[]int) (h api.History) {
	for i, p := range parents {
		h.Commits = append(h.Commits, api.Commit{No: i + 1, Parents: p})
	}
	return h
}

func with(h api.History, branches, tags []api.Ref) api.History {
	h.Branches, h.Tags = branches, tags
	return h
}

func refs(n int, from int) (l []api.Ref) {
	for i := range n {
		l = append(l, api.Ref{Name: "x" + strconv.Itoa(10000+from+i), No: 1})
	}
	return l
}

var chain = commits(nil, []int{1}, []int{2}, []int{1}, []int{3, 4}, nil)

// P29.1
func TestCheck(t *testing.T) {
	long := strings.Repeat("~", 200)
	message := func(s string) api.History {
		h := commits(nil, []int{1})
		h.Commits[1].Message = s
		return h
	}
	full := api.History{}
	for i := range 1024 {
		full.Commits = append(full.Commits, api.Commit{No: i + 1})
	}
	more := full
	more.Commits = append(slices.Clone(full.Commits), api.Commit{})
	for k, x := range []struct {
		h api.History
		e api.Errno
	}{
		{api.History{}, api.OK}, {chain, api.OK}, {full, api.OK}, {more, api.ErrLimit}, {message(long), api.OK}, {message(" "), api.OK}, {message(long + "~"), api.ErrArg}, {message("\n"), api.ErrArg}, {message("\x7f"), api.ErrArg}, {message("\xc3\xa4"), api.ErrArg},
		{commits([]int{1}), api.ErrVersion}, {commits(nil, []int{0}), api.ErrVersion}, {commits(nil, []int{2}), api.ErrVersion}, {commits(nil, nil, []int{1, 1}), api.ErrVersion}, {commits(nil, nil, nil, []int{1, 2, 3}), api.ErrVersion}, {commits(nil, nil, nil, []int{3, 1}), api.OK}, {api.History{Commits: []api.Commit{{No: 2}}}, api.ErrVersion}, {api.History{Commits: []api.Commit{{No: 1, Message: "\n"}, {No: 7}}}, api.ErrArg}, {api.History{Commits: []api.Commit{{No: 1}, {No: 7}, {No: 3, Message: "\n"}}}, api.ErrVersion},
		{with(chain, []api.Ref{{Name: "a", No: 1}, {Name: "b", No: 6}}, []api.Ref{{Name: "A", No: 1}}), api.OK}, {with(chain, []api.Ref{{Name: "b", No: 1}, {Name: "a", No: 1}}, nil), api.ErrTaken}, {with(chain, []api.Ref{{Name: "a", No: 1}, {Name: "a", No: 1}}, nil), api.ErrTaken}, {with(chain, nil, []api.Ref{{Name: "a", No: 1}, {Name: "a", No: 2}}), api.ErrTaken}, {with(chain, []api.Ref{{Name: "a", No: 7}}, nil), api.ErrVersion}, {with(chain, []api.Ref{{Name: "a", No: 0}}, nil), api.ErrVersion}, {with(chain, []api.Ref{{Name: "_a", No: 9}}, nil), api.ErrName}, {with(chain, []api.Ref{{Name: "p:a", No: 1}}, nil), api.ErrName}, {with(chain, nil, []api.Ref{{Name: "", No: 1}}), api.ErrName}, {with(chain, nil, []api.Ref{{Name: "and", No: 1}}), api.ErrName},
		{with(chain, []api.Ref{{Name: "a", No: 1}}, []api.Ref{{Name: "a", No: 1}}), api.ErrTaken}, {with(chain, []api.Ref{{Name: "a", No: 1}}, []api.Ref{{Name: "a", No: 1}, {Name: "_", No: 1}}), api.ErrName}, {with(chain, refs(200, 0), refs(56, 500)), api.OK}, {with(chain, refs(200, 0), refs(57, 500)), api.ErrLimit},
	} {
		if e := history.Check(x.h); e != x.e {
			t.Errorf("case %d: %d, want %d", k, e, x.e)
		}
	}
}

// P29.2
func TestAdd(t *testing.T) {
	d := api.Digest{5}
	h, no, e := history.Add(api.History{}, nil, d, "first")
	if want := (api.History{Commits: []api.Commit{{No: 1, Base: d, Message: "first"}}}); e != api.OK || no != 1 || !reflect.DeepEqual(h, want) {
		t.Error(h, no, e)
	}
	h2, no, e := history.Add(chain, []int{6, 2}, d, "")
	if e != api.OK || no != 7 || len(h2.Commits) != 7 || !slices.Equal(h2.Commits[6].Parents, []int{6, 2}) || len(chain.Commits) != 6 {
		t.Error(h2, no, e)
	}
	full := api.History{}
	for i := range 1024 {
		full.Commits = append(full.Commits, api.Commit{No: i + 1})
	}
	for k, x := range []struct {
		h       api.History
		parents []int
		message string
		e       api.Errno
	}{{commits([]int{1}), []int{9}, "\n", api.ErrVersion}, {api.History{Commits: []api.Commit{{No: 1, Message: "\n"}}}, []int{9}, "", api.ErrArg}, {api.History{}, []int{1}, "\n", api.ErrVersion}, {chain, []int{1, 2, 3}, "", api.ErrVersion}, {chain, []int{1, 1}, "", api.ErrVersion}, {chain, []int{0}, "", api.ErrVersion}, {chain, []int{7}, "", api.ErrVersion}, {chain, []int{1}, "\n", api.ErrArg}, {full, nil, "\n", api.ErrArg}, {full, []int{1}, "", api.ErrLimit}} {
		if h, no, e := history.Add(x.h, x.parents, d, x.message); e != x.e || no != 0 || h.Commits != nil {
			t.Error(k, e)
		}
	}
}

// P29.2
func TestLabels(t *testing.T) {
	h, e := history.Branch(chain, "main", 5)
	h, e2 := history.Branch(h, "dev", 2)
	h, e3 := history.Tag(h, "v1", 3)
	h, e4 := history.Tag(h, "beta", 3)
	before := fmt.Sprint(h)
	moved, e5 := history.Branch(h, "main", 6)
	want := with(chain, []api.Ref{{Name: "dev", No: 2}, {Name: "main", No: 6}}, []api.Ref{{Name: "beta", No: 3}, {Name: "v1", No: 3}})
	if e+e2+e3+e4+e5 != api.OK || !reflect.DeepEqual(moved, want) || fmt.Sprint(h) != before {
		t.Error(moved, h)
	}
	full := with(chain, refs(200, 0), refs(56, 500))
	for k, x := range []struct {
		h           api.History
		name        string
		no          int
		branch, tag api.Errno
	}{{commits([]int{1}), "_", 9, api.ErrVersion, api.ErrVersion}, {api.History{}, "main", 1, api.ErrVersion, api.ErrVersion}, {h, "_x", 99, api.ErrName, api.ErrName}, {h, "p:x", 1, api.ErrName, api.ErrName}, {h, "x^", 1, api.ErrName, api.ErrName}, {h, "x", 7, api.ErrVersion, api.ErrVersion}, {h, "x", 0, api.ErrVersion, api.ErrVersion}, {h, "v1", 7, api.ErrVersion, api.ErrVersion}, {h, "v1", 1, api.ErrTaken, api.ErrTaken}, {h, "main", 1, api.OK, api.ErrTaken}, {full, "new", 1, api.ErrLimit, api.ErrLimit}, {full, "x10000", 2, api.OK, api.ErrTaken}, {full, "x10500", 2, api.ErrTaken, api.ErrTaken}} {
		if y, e := history.Branch(x.h, x.name, x.no); e != x.branch || e != api.OK && y.Commits != nil {
			t.Error(k, e)
		}
		if y, e := history.Tag(x.h, x.name, x.no); e != x.tag || e != api.OK && y.Commits != nil {
			t.Error(k, e)
		}
	}
}

// P29.2
func TestFind(t *testing.T) {
	h := with(chain, []api.Ref{{Name: "main", No: 5}}, []api.Ref{{Name: "root", No: 1}})
	for label, want := range map[string]int{"main": 5, "root": 1, "main^": 3, "main^1": 3, "main^2": 4, "main^2^": 1, "main^^": 2, "main^1^1^1": 1, "main^^^": 1} {
		if no, e := history.Find(h, label); e != api.OK || no != want {
			t.Error(label, no, e)
		}
	}
	for label, want := range map[string]api.Errno{"main^3": api.ErrName, "main^0": api.ErrName, "main^12": api.ErrName, "main^1x": api.ErrName, "^": api.ErrName, "": api.ErrName, "_x": api.ErrName, "a:b": api.ErrName, "x": api.ErrVersion, "x^3": api.ErrName, "root^": api.ErrVersion, "main^^2": api.ErrVersion, "main^^^^": api.ErrVersion, "main ": api.ErrName, "main^ ": api.ErrName, "x^": api.ErrVersion} {
		if no, e := history.Find(h, label); e != want || no != 0 {
			t.Error(label, no, e)
		}
	}
	if no, e := history.Find(commits([]int{1}), "^"); e != api.ErrVersion || no != 0 {
		t.Error(e)
	}
}

// P29.3
func TestAncestorsCommon(t *testing.T) {
	for no, want := range map[int][]int{1: {1}, 3: {1, 2, 3}, 5: {1, 2, 3, 4, 5}, 6: {6}} {
		if l, e := history.Ancestors(chain, no); e != api.OK || !slices.Equal(l, want) {
			t.Error(no, l, e)
		}
	}
	cross := commits(nil, nil, []int{1, 2}, []int{2, 1}, []int{3}, []int{4})
	for _, x := range []struct {
		h    api.History
		a, b int
		want []int
	}{{chain, 2, 2, []int{2}}, {chain, 3, 4, []int{1}}, {chain, 5, 2, []int{2}}, {chain, 5, 6, nil}, {cross, 5, 6, []int{1, 2}}, {cross, 3, 4, []int{1, 2}}} {
		for _, y := range [][2]int{{x.a, x.b}, {x.b, x.a}} {
			if l, e := history.Common(x.h, y[0], y[1]); e != api.OK || !slices.Equal(l, x.want) {
				t.Error(x, l, e)
			}
		}
	}
	bad := commits([]int{1})
	for _, no := range []int{0, -1, 7} {
		if l, e := history.Ancestors(chain, no); e != api.ErrVersion || l != nil {
			t.Error(no, e)
		}
		if l, e := history.Common(chain, 1, no); e != api.ErrVersion || l != nil {
			t.Error(no, e)
		}
		if l, e := history.Common(chain, no, 1); e != api.ErrVersion || l != nil {
			t.Error(no, e)
		}
	}
	bad.Commits[0].Parents, bad.Commits[0].Message = nil, "\n"
	if l, e := history.Ancestors(bad, 9); e != api.ErrArg || l != nil {
		t.Error(e)
	}
	if l, e := history.Common(bad, 9, 9); e != api.ErrArg || l != nil {
		t.Error(e)
	}
}

// P29.3 and P29.4
func TestConsequences(t *testing.T) {
	r := rand.New(rand.NewSource(1))
	for range 300 {
		var h api.History
		for i := range 1 + r.Intn(10) {
			var parents []int
			for _, p := range r.Perm(i)[:min(i, r.Intn(3))] {
				parents = append(parents, p+1)
			}
			before := fmt.Sprint(h)
			x, no, e := history.Add(h, parents, api.Digest{}, "m")
			if e != api.OK || no != i+1 || history.Check(x) != api.OK || fmt.Sprint(h) != before {
				t.Fatal(h, parents, e)
			}
			h = x
		}
		n := len(h.Commits)
		of := make([][]int, n+1)
		for no := 1; no <= n; no++ {
			of[no], _ = history.Ancestors(h, no)
			want := map[int]bool{no: true}
			for k := no; k > 0; k-- {
				if want[k] {
					for _, p := range h.Commits[k-1].Parents {
						want[p] = true
					}
				}
			}
			if len(want) != len(of[no]) || !slices.IsSorted(of[no]) {
				t.Fatal(h, no, of[no])
			}
		}
		a, b := 1+r.Intn(n), 1+r.Intn(n)
		var common, want []int
		for _, c := range of[a] {
			if slices.Contains(of[b], c) {
				common = append(common, c)
			}
		}
		for _, c := range common {
			if !slices.ContainsFunc(common, func(d int) bool { return d != c && slices.Contains(of[d], c) }) {
				want = append(want, c)
			}
		}
		if l, e := history.Common(h, a, b); e != api.OK || !slices.Equal(l, want) {
			t.Fatal(h, a, b, l, want)
		}
	}
}

package reason_test

import (
	"math/rand"
	"slices"
	"testing"

	"veilstone/api"
	"veilstone/base"
	"veilstone/entail"
	"veilstone/explain"
	"veilstone/hitting"
	"veilstone/reason"
	"veilstone/sample"
)

// Traced sets are those that a search through all sets finds.
func TestTrace(t *testing.T) {
	r := rand.New(rand.NewSource(5))
	pool := sample.Axioms("A sub B. B sub C. A sub C. A sub some r B. some r C sub C. domain r C. A same D. role r sub s. domain s C. A disjoint B. A and D sub E. type a A. type a B. type b A. link a r b. link b s a. B disjoint C. reflexive r. everything sub C. type b C. C sub nothing. chain r s sub s. type a f in 1 to 5. type a f in 4 to 9. f in 0 to 5 sub E. f in 4 to 5 sub C. A sub f in 7 to 9. E sub some r {a}. {b} sub E. some s {a} sub B. reflexive q. chain q r sub t. domain t nothing. link b t b.")
	goals := sample.Axioms("A sub C. type a C. type b E. link a s b. A disjoint C. domain r E. type a f in 4 to 5. link b s b. type b nothing. some r A sub C.")
	n := 0
	for range 300 {
		var l []api.Axiom
		for range 3 + r.Intn(9) {
			l = append(l, pool[r.Intn(len(pool))])
		}
		b, e := base.New(l)
		if e != api.OK {
			continue
		}
		a := goals[r.Intn(len(goals))]
		sets, ok := reason.TraceAxiom(b, a, nil)
		if !ok {
			t.Fatal("given up")
		}
		sets, _ = hitting.Minimal(sets)
		want, e := explain.All(b, a, 1<<30)
		if e != api.OK || !slices.EqualFunc(sets, want, slices.Equal[[]int]) {
			t.Fatal(b, a, sets, want)
		}
		n += len(want)
		// clashes by subsets
		var all [][]int
		if len(b.Axioms) <= 9 {
			for bits := range 1 << len(b.Axioms) {
				var s []int
				for i := range b.Axioms {
					if bits>>i&1 == 1 {
						s = append(s, i)
					}
				}
				x, _ := base.Keep(b, s)
				if ok, _ := entail.Consistent(x); !ok {
					all = append(all, s)
				}
			}
			all, _ = hitting.Minimal(all)
			got, ok := reason.TraceClashes(b, nil)
			got, _ = hitting.Minimal(got)
			if !ok || !slices.EqualFunc(got, all, slices.Equal[[]int]) {
				t.Fatal(b, got, all)
			}
		}
	}
	if n < 50 {
		t.Error(n)
	}
}

// What cannot be traced is left to others.
func TestTraceGivesUp(t *testing.T) {
	b := sample.Base("role r sub s. A sub B.")
	for _, a := range sample.Axioms("role r sub s. reflexive r. chain r r sub s. A same B.") {
		if sets, ok := reason.TraceAxiom(b, a, nil); ok || sets != nil {
			t.Error(a, sets)
		}
	}
	// The sets for a way through a complete graph are too many.
	var l []api.Axiom
	for i := range byte(9) {
		for k := range byte(9) {
			if i != k {
				l = append(l, sample.Axiom("N"+string('0'+i)+" sub N"+string('0'+k)))
			}
		}
	}
	graph, _ := base.New(l)
	if _, ok := reason.TraceAxiom(graph, sample.Axiom("N0 sub N8"), nil); ok {
		t.Error("a complete graph")
	}
	if l, e := explain.First(graph, sample.Axiom("N0 sub N8")); e != api.ErrLimit || l != nil {
		t.Error(e)
	}
}

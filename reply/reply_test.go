package reply_test

import (
	"bytes"
	"fmt"
	"math/rand"
	"reflect"
	"slices"
	"strings"
	"testing"

	"veilstone/api"
	"veilstone/reply"
	"veilstone/sample"
)

// P40.1
func TestRequests(t *testing.T) {
	q := sample.Query("select ?x where A(?x)")
	for src, want := range map[string]api.Request{
		"ask ann main\nselect ?x where A(?x)":          {Kind: api.AskR, Reader: "ann", Version: "main", Query: q},
		"count bob v1^\nselect ?x where A(?x)":         {Kind: api.CountR, Reader: "bob", Version: "v1^", Query: q},
		"why a m^^2^1\nselect ?x where A(?x)":          {Kind: api.WhyR, Reader: "a", Version: "m^^2^1", Query: q},
		"differ ann main main^\nselect ?x where A(?x)": {Kind: api.DifferR, Reader: "ann", Version: "main", Other: "main^", Query: q},
		"merge ann main^2\nselect ?x where A(?x)":      {Kind: api.MergeR, Reader: "ann", Version: "main^2", Query: q},
	} {
		r, at, e := reply.ParseRequest([]byte(src))
		if e != api.OK || at != 0 || !reflect.DeepEqual(r, want) {
			t.Errorf("%q: %v, %d, %d", src, r, at, e)
		}
		if b, e := reply.PrintRequest(want); e != api.OK || string(b) != src {
			t.Errorf("%q: %q, %d", src, b, e)
		}
	}
	if r, _, e := reply.ParseRequest([]byte("ask ann main\n\n select # c\n ?x where A( ?x)\n")); e != api.OK || !reflect.DeepEqual(r.Query, q) {
		t.Error(r, e)
	}
	for _, x := range []struct {
		src string
		at  int
		e   api.Errno
	}{
		{"", 0, api.ErrRequest}, {"ask ann main", 12, api.ErrRequest}, {"ask ann\n", 0, api.ErrRequest}, {"ask _ann main\n", 4, api.ErrName}, {"count ann main^3\n", 10, api.ErrName}, {"\n", 0, api.ErrRequest}, {"ASK ann main\n", 0, api.ErrRequest}, {"ask ann main main\n", 0, api.ErrRequest}, {"differ ann main\n", 0, api.ErrRequest}, {"differ ann main main main\n", 0, api.ErrRequest}, {" ask ann main\n", 0, api.ErrRequest}, {"ask  ann main\n", 0, api.ErrRequest}, {"ask  main\n", 4, api.ErrName}, {"ask ann \n", 8, api.ErrName}, {"ask p:ann main\n", 4, api.ErrName}, {"ask and main\n", 4, api.ErrName}, {"ask ann^ main\n", 4, api.ErrName}, {"ask ann _main\n", 8, api.ErrName}, {"ask ann ^\n", 8, api.ErrName}, {"ask ann m^x\n", 8, api.ErrName}, {"ask ann m^12\n", 8, api.ErrName}, {"differ ann main a:b\n", 16, api.ErrName}, {"differ ann a:b c:d\n", 11, api.ErrName}, {"ask ann main\r\n", 8, api.ErrName},
		{"ask ann main\n", 13, api.ErrSyntax}, {"ask ann main\nselect x", 20, api.ErrSyntax}, {"ask ann main\nselect ?x where A(a)", 13, api.ErrQuery}, {"ask ann main\nselect where A(_a)", 13, api.ErrName}, {"ask ann main\nselect %", 20, api.ErrToken}, {strings.Repeat("a", api.MaxSource+1), 0, api.ErrLimit}, {strings.Repeat("a", api.MaxSource), api.MaxSource, api.ErrRequest},
	} {
		if r, at, e := reply.ParseRequest([]byte(x.src)); e != x.e || at != x.at || !reflect.DeepEqual(r, api.Request{}) {
			t.Errorf("%.40q: %d, %d, want %d, %d", x.src, at, e, x.at, x.e)
		}
	}
	for k, x := range []struct {
		r api.Request
		e api.Errno
	}{{api.Request{}, api.ErrRequest}, {api.Request{Kind: 6}, api.ErrRequest}, {api.Request{Kind: 1, Other: "x"}, api.ErrRequest}, {api.Request{Kind: 1, Reader: "_a", Version: "m", Query: q}, api.ErrName}, {api.Request{Kind: 1, Reader: "a", Version: "m^3", Query: q}, api.ErrName}, {api.Request{Kind: 4, Reader: "a", Version: "m", Query: q}, api.ErrName}, {api.Request{Kind: 4, Reader: "a", Version: "m", Other: "n"}, api.ErrQuery}, {api.Request{Kind: 5, Reader: "a", Version: "m"}, api.ErrQuery}} {
		if b, e := reply.PrintRequest(x.r); e != x.e || b != nil {
			t.Error(k, e)
		}
	}
}

func whole() api.Reply {
	return api.Reply{Code: 380, Count: 7, More: []api.Told{{Part: 0, Tuple: []string{"a", "p:b"}}, {Part: 3}}, Less: []api.Told{{Part: 1, Tuple: []string{"c"}}}, Whys: []api.Why{{Axioms: sample.Axioms("open A sub B. role r sub s."), Entries: []int{1, 1024}}, {}, {Entries: []int{3}}, {Axioms: sample.Axioms("open type a some r {b}.")}}}
}

const wholeText = "code 380\ncount 7\nmore 2\n0 a p:b\n3\nless 1\n1 c\nwhys 4\nwhy 2 2\nopen A sub B\nrole r sub s\n1 1024\nwhy 0 0\nwhy 0 1\n3\nwhy 1 0\nopen type a some r {b}\n"

// P40.2
func TestEncode(t *testing.T) {
	for text, x := range map[string]api.Reply{"code 401\ncount 0\nmore 0\nless 0\nwhys 0\n": {Code: api.ErrReader}, wholeText: whole(), "code 0\ncount 256\nmore 0\nless 0\nwhys 0\n": {Count: 256}} {
		b, e := reply.Encode(x)
		if e != api.OK || string(b) != text {
			t.Errorf("%q, %d", b, e)
		}
		y, e := reply.Decode([]byte(text))
		if e != api.OK || strings.ReplaceAll(fmt.Sprint(x), "<nil>", "[]") != fmt.Sprint(y) {
			t.Error(y, e)
		}
	}
	one := []api.Told{{Tuple: []string{"a"}}}
	untidy := sample.Axiom("open A sub B and C")
	untidy.Right.Parts = []api.Concept{untidy.Right.Parts[1], untidy.Right.Parts[0]}
	many := make([]int, 1024)
	for i := range many {
		many[i] = i + 1
	}
	axioms := slices.Repeat(sample.Axioms("open A sub B."), 1024)
	for k, x := range []struct {
		r api.Reply
		e api.Errno
	}{
		{api.Reply{Code: 999}, api.OK}, {api.Reply{Code: 1000}, api.ErrArg}, {api.Reply{Code: -1}, api.ErrArg}, {api.Reply{Count: 257}, api.ErrArg}, {api.Reply{Count: -1}, api.ErrArg}, {api.Reply{More: slices.Repeat(one, 256), Less: slices.Repeat(one, 256)}, api.OK}, {api.Reply{More: slices.Repeat(one, 257)}, api.ErrArg}, {api.Reply{Less: slices.Repeat(one, 257)}, api.ErrArg}, {api.Reply{More: []api.Told{{Part: 4}}}, api.ErrArg}, {api.Reply{Less: []api.Told{{Part: -1}}}, api.ErrArg}, {api.Reply{More: []api.Told{{Tuple: []string{"a", "a", "a", "a"}}}}, api.ErrArg}, {api.Reply{More: []api.Told{{Tuple: []string{"a", "a", "a"}}}}, api.OK}, {api.Reply{More: []api.Told{{Tuple: []string{"_a"}}}}, api.ErrArg}, {api.Reply{Less: []api.Told{{Tuple: []string{"a b"}}}}, api.ErrArg}, {api.Reply{Less: []api.Told{{Tuple: []string{""}}}}, api.ErrArg},
		{api.Reply{Whys: make([]api.Why, 256)}, api.OK}, {api.Reply{Whys: make([]api.Why, 257)}, api.ErrArg}, {api.Reply{Whys: []api.Why{{Entries: many, Axioms: axioms}}}, api.OK}, {api.Reply{Whys: []api.Why{{Entries: append(many, 1025)}}}, api.ErrArg}, {api.Reply{Whys: []api.Why{{Axioms: append(axioms, axioms[0])}}}, api.ErrArg}, {api.Reply{Whys: []api.Why{{Entries: []int{0}}}}, api.ErrArg}, {api.Reply{Whys: []api.Why{{Entries: []int{2, 2}}}}, api.ErrArg}, {api.Reply{Whys: []api.Why{{Entries: []int{3, 2}}}}, api.ErrArg}, {api.Reply{Whys: []api.Why{{Axioms: sample.Axioms("A sub B.")}}}, api.ErrArg}, {api.Reply{Whys: []api.Why{{Axioms: []api.Axiom{untidy}}}}, api.ErrArg}, {api.Reply{Whys: []api.Why{{Axioms: []api.Axiom{{}}}}}, api.ErrArg}, {api.Reply{Whys: []api.Why{{Axioms: []api.Axiom{{Kind: api.LinkA, Open: true, A: "a", Role: "r", B: "_1_x"}}}}}, api.ErrArg}, {api.Reply{Whys: []api.Why{{Axioms: []api.Axiom{{Kind: api.SubA, Open: true, Left: api.Concept{Kind: api.NominalC, Name: "_1_x"}, Right: sample.Concept("A")}}}}}, api.ErrArg},
	} {
		b, e := reply.Encode(x.r)
		if e != x.e || e != api.OK && b != nil {
			t.Error(k, e)
		}
		if y, e2 := reply.Decode(b); e == api.OK && (e2 != api.OK || len(y.More) != len(x.r.More) || len(y.Whys) != len(x.r.Whys)) {
			t.Error(k, e2)
		}
	}
}

// P40.2
func TestDecodeErrors(t *testing.T) {
	bad := []string{"", "code 0", "code 0\ncount 0\nmore 0\nless 0\nwhys 0", "code 0\ncount 0\nmore 0\nless 0\nwhys 0\n\n", "code  0\ncount 0\nmore 0\nless 0\nwhys 0\n", "code 00\ncount 0\nmore 0\nless 0\nwhys 0\n", "code +1\ncount 0\nmore 0\nless 0\nwhys 0\n", "code 0\ncount -1\nmore 0\nless 0\nwhys 0\n", "count 0\ncode 0\nmore 0\nless 0\nwhys 0\n", "code 0\ncount 0\nmore 1\n0 \nless 0\nwhys 0\n", "code 0\ncount 0\nmore 1\nless 0\nwhys 0\n", "code 0\ncount 0\nmore 99999999999\nless 0\nwhys 0\n", "code 0\ncount 0\nmore -1\nless 0\nwhys 0\n", "code 0\ncount 0\nmore 0\nless 0\nwhys 1\nwhy 1 0\nA sub B\n", "code 0\ncount 0\nmore 0\nless 0\nwhys 1\nwhy 1 0\nopen B and A sub B\n", "code 0\ncount 0\nmore 0\nless 0\nwhys 1\nwhy 1 0\nopen  A sub B\n", "code 0\ncount 0\nmore 0\nless 0\nwhys 1\nwhy 0 1\n1 2\n", "code 0\ncount 0\nmore 0\nless 0\nwhys 1\nwhy 0 2\n2 1\n", "code 0\ncount 0\nmore 0\nless 0\nwhys 1\nwhy 99999999999 0\n", "code 0\ncount 0\nmore 0\nless 0\nwhys -5\n", "code 0\ncount 0\nmore 0\nless 0\nwhys 1\nwhy 0 -1\n"}
	for n := range wholeText {
		bad = append(bad, wholeText[:n])
	}
	for _, s := range bad {
		if x, e := reply.Decode([]byte(s)); e != api.ErrRequest || !reflect.DeepEqual(x, api.Reply{}) {
			t.Errorf("%q: %v, %d", s, x, e)
		}
	}
	r := rand.New(rand.NewSource(1))
	for range 5000 {
		b := []byte(wholeText)
		b[r.Intn(len(b))] = "0123456789 \nabAB{}"[r.Intn(18)]
		if x, e := reply.Decode(b); e == api.OK {
			if c, e := reply.Encode(x); e != api.OK || !bytes.Equal(b, c) {
				t.Fatalf("%q", b)
			}
		}
	}
}

// P40.2 and P40.3
func TestSplit(t *testing.T) {
	told := func(part int, tuple ...string) api.Told { return api.Told{Part: part, Tuple: tuple} }
	a := []api.Told{told(0, "a"), told(1, "a"), told(0, "a", "b"), told(0, "a"), told(2)}
	b := []api.Told{told(1, "a"), told(0, "ab"), told(0, "b"), told(0, "b", "a"), told(3), told(0, "b")}
	x, y := reply.Split(a, b)
	if want := []api.Told{told(0, "a"), told(0, "a", "b"), told(0, "a"), told(2)}; !reflect.DeepEqual(x, want) {
		t.Error(x)
	}
	if want := []api.Told{told(0, "ab"), told(0, "b"), told(0, "b", "a"), told(3), told(0, "b")}; !reflect.DeepEqual(y, want) {
		t.Error(y)
	}
	if x, y := reply.Split(a, a); len(x)+len(y) != 0 {
		t.Error(x, y)
	}
	if x, y := reply.Split(a, nil); len(x) != 5 || len(y) != 0 {
		t.Error(x, y)
	}
	odd := []api.Told{told(0, "a b"), told(0, "a", "b"), told(-7, "", ""), told(-7, "")}
	for i := range odd {
		x, y := reply.Split(odd[i:i+1], odd)
		if len(x) != 0 || len(y) != 3 {
			t.Error(i, x, y)
		}
	}
}

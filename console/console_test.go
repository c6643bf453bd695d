package console_test

import (
	"fmt"
	"math/rand"
	"reflect"
	"slices"
	"strings"
	"testing"

	"veilstone/api"
	"veilstone/console"
	"veilstone/reply"
	"veilstone/sample"
	"veilstone/vault"
)

func hex(first byte) string { return fmt.Sprintf("%02x", first) + strings.Repeat("0", 62) }

var alignment = api.Alignment{Name: "al", Base: api.Digest{1}, Public: api.Digest{0xaf}, Sig: api.Signature{Index: 3, Parts: []api.Digest{{2}, {3}}, Path: []api.Digest{{4}}}, Axioms: sample.Axioms("A sub p:X.")}

// whole is a script with every command, and what it denotes.
var whole = "commit main the first one\n+ open A sub B\n- type a A\n+ role r sub s\nend\n" +
	"branch b main^\ntag v1 b\nmerge main b \nmerge main b  two spaces\nput x - main\n+ A sub B\nend\nput x main - m\nend\npolicy ann\nsecret select ?x where A(?x)\nsecret select where A(a) or B(b)\nend\n" +
	"request\ndiffer ann main main^\nselect ?x where A(?x)\npublish p 2\nrename role a b\n+ X sub Y\nrename concept A p:B\nend\n" +
	"align main p al\nindex 3\npart " + hex(2) + "\nbase " + hex(1) + "\npath " + hex(4) + "\n+ A sub p:X\npart " + hex(3) + "\npublic " + hex(0xaf) + "\nend\ncarry main al m\ncrash 5 0\nrepair main\n"

var operations = []api.Op{
	{Kind: api.CommitO, Name: "main", Message: "the first one", More: sample.Axioms("open A sub B. role r sub s."), Less: sample.Axioms("type a A.")}, {Kind: api.BranchO, Name: "b", Version: "main^"}, {Kind: api.TagO, Name: "v1", Version: "b"}, {Kind: api.MergeO, Name: "main", Version: "b"}, {Kind: api.MergeO, Name: "main", Version: "b", Message: " two spaces"}, {Kind: api.PutO, Name: "x", Other: "main", More: sample.Axioms("A sub B.")}, {Kind: api.PutO, Name: "x", Version: "main", Message: "m"},
	{Kind: api.PolicyO, Policy: api.Policy{Reader: "ann", Secrets: []api.Query{sample.Query("select ?x where A(?x)"), sample.Query("select where A(a) or B(b)")}}}, {Kind: api.AskO, Request: api.Request{Kind: api.DifferR, Reader: "ann", Version: "main", Other: "main^", Query: sample.Query("select ?x where A(?x)")}}, {Kind: api.OtherO, Vocabulary: api.Other{Name: "p", No: 2, Base: sample.Base("X sub Y."), Renamings: []api.Renaming{{Kind: 2, Old: "a", New: "b"}, {Kind: 1, Old: "A", New: "p:B"}}}},
	{Kind: api.AlignO, Name: "main", Other: "p", Alignment: alignment}, {Kind: api.CarryO, Name: "main", Other: "al", Message: "m"}, {Kind: api.CrashO, N: 5}, {Kind: api.RepairO, Name: "main"},
}

// P46.1
func TestParse(t *testing.T) {
	l, line, e := console.Parse([]byte(whole))
	if e != api.OK || line != 0 || len(l) != len(operations) {
		t.Fatal(len(l), line, e)
	}
	for i := range l {
		if !reflect.DeepEqual(l[i], operations[i]) {
			t.Errorf("%d: %v, want %v", i, l[i], operations[i])
		}
	}
	for src, many := range map[string]int{"": 0, "# nothing": 0, "\n\n#x\n": 0, "crash 3 0": 1, "\n#\ncrash 0 128\n\n": 1, "commit main\n\n# c\nend": 1, "request\nask ann main\nselect where A(a)": 1, "align a b c\nend": 1, "policy " + strings.Repeat("x", 300) + "\nend\n": 1, "crash 999999999999999999 0": 1, "commit a\xff\nend": -1, "repair main \t\xff\x00": 1, "branch ~ !": 1} {
		l, line, e := console.Parse([]byte(src))
		if many >= 0 && (e != api.OK || line != 0 || len(l) != many) || many < 0 && e != api.ErrCommand {
			t.Errorf("%.40q: %d, %d, %d", src, len(l), line, e)
		}
	}
	l, _, e = console.Parse([]byte("align main p al\nend\n"))
	if want := (api.Op{Kind: api.AlignO, Name: "main", Other: "p", Alignment: api.Alignment{Name: "al"}}); e != api.OK || !reflect.DeepEqual(l[0], want) {
		t.Error(l, e)
	}
}

// P46.1
func TestParseErrors(t *testing.T) {
	for _, x := range []struct {
		src  string
		line int
		e    api.Errno
	}{
		{"branch b main\ncrash 5 -1", 2, api.ErrCommand}, {"commit main", 2, api.ErrCommand}, {"commit main\n\n# c\n", 4, api.ErrCommand}, {"end", 1, api.ErrCommand}, {" crash 3 0", 1, api.ErrCommand}, {"crash 3 0 ", 1, api.ErrCommand}, {"crash 3", 1, api.ErrCommand}, {"crash  3 0", 1, api.ErrCommand}, {"crash 03 0", 1, api.ErrCommand}, {"crash +3 0", 1, api.ErrCommand}, {"crash 1000000000000000000 0", 1, api.ErrCommand}, {"crash 3 0 0", 1, api.ErrCommand}, {"crash", 1, api.ErrCommand}, {"CRASH 3 0", 1, api.ErrCommand}, {"\n\ncrash x 0", 3, api.ErrCommand},
		{"commit\nend", 1, api.ErrCommand}, {"commit  x\nend", 1, api.ErrCommand}, {"commit a\tb\nend", 1, api.ErrCommand}, {"branch b", 1, api.ErrCommand}, {"branch b c d", 1, api.ErrCommand}, {"tag b c ", 1, api.ErrCommand}, {"merge b", 1, api.ErrCommand}, {"put b main", 1, api.ErrCommand}, {"policy ann x\nend", 1, api.ErrCommand}, {"policy\nend", 1, api.ErrCommand}, {"request x\nask ann main\nselect where A(a)", 1, api.ErrCommand}, {"publish p\nend", 1, api.ErrCommand}, {"publish p -1\nend", 1, api.ErrCommand}, {"align a b\nend", 1, api.ErrCommand}, {"align a b c d\nend", 1, api.ErrCommand}, {"carry a", 1, api.ErrCommand}, {"repair", 1, api.ErrCommand}, {"repair ", 1, api.ErrCommand},
		{"commit main\n+ A sub\nend", 2, api.ErrSyntax}, {"commit main\n+ A sub B.\nend", 2, api.ErrSyntax}, {"commit main\n+ \nend", 2, api.ErrSyntax}, {"commit main\n+\nend", 2, api.ErrCommand}, {"commit main\n+A sub B\nend", 2, api.ErrCommand}, {"commit main\nA sub B\nend", 2, api.ErrCommand}, {"commit main\n+ A sub {a}\nend", 2, api.ErrAxiom}, {"commit main\n#\n- A sub %\nend", 3, api.ErrToken}, {"commit main\nend \nend", 2, api.ErrCommand}, {"commit main\nsecret select where A(a)\nend", 2, api.ErrCommand}, {"put a - -\n- A sub B\nend", 2, api.ErrCommand}, {"policy ann\nsecret select where A(\nend", 2, api.ErrSyntax}, {"policy ann\nsecret\nend", 2, api.ErrCommand}, {"policy ann\nsecret select ?x where A(a)\nend", 2, api.ErrQuery}, {"policy ann\n+ A sub B\nend", 2, api.ErrCommand},
		{"request", 1, api.ErrCommand}, {"request\nask ann main", 1, api.ErrCommand}, {"request\nask ann main\n", 1, api.ErrCommand}, {"request\nask ann\nselect where A(a)", 2, api.ErrRequest}, {"request\n\nask ann main\nselect where A(a)", 2, api.ErrRequest}, {"request\nask ann main\n# c", 2, api.ErrSyntax}, {"request\nask _ann main\nselect where A(a)", 2, api.ErrName}, {"request\nask ann main\nselect where A(a)\nend", 4, api.ErrCommand},
		{"publish p 1\nrename x A B\nend", 2, api.ErrCommand}, {"publish p 1\nrename role A\nend", 2, api.ErrCommand}, {"publish p 1\nrename role A B C\nend", 2, api.ErrCommand}, {"publish p 1\nrename  A B\nend", 2, api.ErrCommand}, {"publish p 1\n- A sub B\nend", 2, api.ErrCommand}, {"align a b c\nbase " + hex(1)[1:] + "\nend", 2, api.ErrCommand}, {"align a b c\nbase " + strings.ToUpper(hex(0xaf)) + "\nend", 2, api.ErrCommand}, {"align a b c\nbase " + hex(1) + "0\nend", 2, api.ErrCommand}, {"align a b c\nbase " + hex(1) + "\nbase " + hex(1) + "\nend", 3, api.ErrCommand}, {"align a b c\npublic " + hex(1) + "\npublic " + hex(1) + "\nend", 3, api.ErrCommand}, {"align a b c\nindex 1\nindex 1\nend", 3, api.ErrCommand}, {"align a b c\nindex 1 \nend", 2, api.ErrCommand}, {"align a b c\npart " + hex(1) + " \nend", 2, api.ErrCommand}, {"align a b c\npath\nend", 2, api.ErrCommand},
		{strings.Repeat("#", api.MaxSource+1), 0, api.ErrLimit},
	} {
		if l, line, e := console.Parse([]byte(x.src)); e != x.e || line != x.line || l != nil {
			t.Errorf("%.60q: %d, %d, want %d, %d", x.src, line, e, x.line, x.e)
		}
	}
	if _, line, e := console.Parse([]byte(strings.Repeat("#", api.MaxSource))); e != api.OK || line != 0 {
		t.Error(e)
	}
}

// P46.2
func TestPrint(t *testing.T) {
	b, e := console.Print(operations)
	want := "commit main the first one\n+ open A sub B\n+ role r sub s\n- type a A\nend\nbranch b main^\ntag v1 b\nmerge main b\nmerge main b  two spaces\nput x - main\n+ A sub B\nend\nput x main - m\nend\npolicy ann\nsecret select ?x where A(?x)\nsecret select where A(a) or B(b)\nend\nrequest\ndiffer ann main main^\nselect ?x where A(?x)\npublish p 2\n+ X sub Y\nrename role a b\nrename concept A p:B\nend\n" +
		"align main p al\nbase " + hex(1) + "\npublic " + hex(0xaf) + "\nindex 3\npart " + hex(2) + "\npart " + hex(3) + "\npath " + hex(4) + "\n+ A sub p:X\nend\ncarry main al m\ncrash 5 0\nrepair main\n"
	if e != api.OK || string(b) != want {
		t.Errorf("%d\n%s", e, b)
	}
	if l, _, e := console.Parse(b); e != api.OK || !reflect.DeepEqual(l, operations) {
		t.Error(e)
	}
	if b, e := console.Print(nil); e != api.OK || len(b) != 0 {
		t.Error(e)
	}
	untidy := sample.Axiom("A sub B and C")
	untidy.Right.Parts = []api.Concept{untidy.Right.Parts[1], untidy.Right.Parts[0]}
	q := sample.Query("select where A(a)")
	for k, o := range []api.Op{
		{}, {Kind: 13}, {Kind: -1}, {Kind: api.CommitO}, {Kind: api.CommitO, Name: "a b"}, {Kind: api.CommitO, Name: "a", Message: "x\ny"}, {Kind: api.CommitO, Name: "a", More: []api.Axiom{{}}}, {Kind: api.CommitO, Name: "a", Less: []api.Axiom{untidy}}, {Kind: api.CommitO, Name: "a", Version: "b"}, {Kind: api.CommitO, Name: "a", More: []api.Axiom{{Kind: api.LinkA, A: "_1", Role: "r", B: "b"}}}, {Kind: api.BranchO, Name: "b"}, {Kind: api.BranchO, Name: "b", Version: "m", Message: "x"}, {Kind: api.BranchO, Name: "b", Version: "m", More: sample.Axioms("A sub B.")}, {Kind: api.TagO, Version: "m"}, {Kind: api.MergeO, Name: "a"}, {Kind: api.PutO, Name: "a", Version: "-"}, {Kind: api.PutO, Name: "a", Less: sample.Axioms("A sub B.")},
		{Kind: api.PolicyO}, {Kind: api.PolicyO, Policy: api.Policy{Reader: "a", Secrets: make([]api.Query, 1)}}, {Kind: api.AskO}, {Kind: api.AskO, Request: api.Request{Kind: 1, Reader: "_a", Version: "m", Query: q}}, {Kind: api.AskO, N: 3, Request: api.Request{Kind: 1, Reader: "a", Version: "m", Query: q}}, {Kind: api.OtherO, Vocabulary: api.Other{Name: "p", No: -1}}, {Kind: api.OtherO, Vocabulary: api.Other{Name: "p", No: 1, Renamings: []api.Renaming{{Kind: 5, Old: "a", New: "b"}}}}, {Kind: api.OtherO, Vocabulary: api.Other{Name: "p", No: 1, Renamings: []api.Renaming{{Kind: 1, Old: "a"}}}}, {Kind: api.OtherO, Vocabulary: api.Other{Name: "p", No: 1 << 62}}, {Kind: api.AlignO, Name: "a", Other: "b"}, {Kind: api.AlignO, Name: "a", Other: "b", Alignment: api.Alignment{Name: "c", Sig: api.Signature{Index: -1}}}, {Kind: api.AlignO, Name: "a", Other: "b", Message: "m", Alignment: api.Alignment{Name: "c"}}, {Kind: api.CarryO, Name: "a"}, {Kind: api.CrashO, N: -1}, {Kind: api.CrashO, Tear: 1 << 62}, {Kind: api.CrashO, Name: "x"}, {Kind: api.RepairO},
		{Kind: api.RepairO, Name: "a", Message: strings.Repeat("x", api.MaxSource)}, {Kind: api.RepairO, Name: "a", Request: api.Request{Query: q}}, {Kind: api.RepairO, Name: "a", Policy: api.Policy{Reader: "x"}}, {Kind: api.RepairO, Name: "a", Alignment: api.Alignment{Public: api.Digest{1}}}, {Kind: api.RepairO, Name: "a", Vocabulary: api.Other{No: 1}},
	} {
		if b, e := console.Print([]api.Op{operations[1], o}); e != api.ErrCommand || b != nil {
			t.Errorf("case %d: %q, %d", k, b, e)
		}
	}
	// Nil and empty lists are equal.
	if b, e := console.Print([]api.Op{{Kind: api.CommitO, Name: "a", More: []api.Axiom{}, Policy: api.Policy{Secrets: []api.Query{}}, Request: api.Request{Query: api.Query{Told: []string{}}}}}); e != api.OK || string(b) != "commit a\nend\n" {
		t.Error(string(b), e)
	}
	long := api.Op{Kind: api.RepairO, Name: "a", Message: strings.Repeat("x", api.MaxSource/2-10)} // 32768 bytes
	if b, e := console.Print([]api.Op{long, long}); e != api.OK || len(b) != api.MaxSource {
		t.Error(len(b), e)
	}
	if b, e := console.Print([]api.Op{long, long, {Kind: api.RepairO, Name: "a"}}); e != api.ErrLimit || b != nil {
		t.Error(e)
	}
	if b, e := console.Print([]api.Op{long, long, {}}); e != api.ErrCommand || b != nil {
		t.Error(e)
	}
}

const play = "commit main first\n+ open A sub B\n+ type a A\nend\npolicy ann\nend\nrequest\nask ann main\nselect ?x where B(?x)\ncrash 0 0\ntag v1 main\ntag v1 main\ncommit main\n- type a A\nend\n"

// P46.3
func TestPlay(t *testing.T) {
	answer, _ := reply.Encode(api.Reply{More: []api.Told{{Tuple: []string{"a"}}}})
	want := "1 code 0 commit 1\n2 code 0\n3 code 0\n" + string(answer) + "4 code 0\n5 code 410\n6 code 0\n7 code 0 commit 2\n"
	if b, e := console.Play([]byte(play), 200); e != api.OK || string(b) != want {
		t.Errorf("%d\n%s", e, b)
	}
	if b, e := console.Play([]byte("commit main first\n+ open A sub B\nend\n"), 16); e != api.OK || string(b) != "1 code 0 commit 1\n" {
		t.Errorf("%d\n%s", e, b)
	}
	for _, x := range []struct {
		src     string
		sectors int
		e       api.Errno
	}{{"x", 15, api.ErrCommand}, {"", 15, api.ErrArg}, {"", 4097, api.ErrArg}, {"", 16, api.OK}, {strings.Repeat(" ", api.MaxSource+1), 1, api.ErrLimit}} {
		if b, e := console.Play([]byte(x.src), x.sectors); e != x.e || len(b) != 0 {
			t.Error(x.sectors, e)
		}
	}
}

// P46.4
func TestConsequences(t *testing.T) {
	r := rand.New(rand.NewSource(1))
	same := func(a, b []api.Op) bool {
		return len(a) == 0 && len(b) == 0 || reflect.DeepEqual(a, b)
	}
	for range 300 {
		var l []api.Op
		for range r.Intn(8) {
			l = append(l, operations[r.Intn(len(operations))])
		}
		b, e := console.Print(l)
		back, _, e2 := console.Parse(b)
		if e != api.OK || e2 != api.OK || !same(l, back) {
			t.Fatal(l, e, e2)
		}
		// Skipped lines, except within a request.
		var skipped []string
		inRequest := 0
		for _, line := range strings.SplitAfter(string(b), "\n") {
			if inRequest == 0 && r.Intn(3) == 0 {
				skipped = append(skipped, []string{"\n", "# x\n", "#\n\n"}[r.Intn(3)])
			}
			inRequest = max(0, inRequest-1)
			if line == "request\n" {
				inRequest = 2
			}
			skipped = append(skipped, line)
		}
		if x, _, e := console.Parse([]byte(strings.Join(skipped, ""))); e != api.OK || !same(x, l) {
			t.Fatalf("%q: %d", skipped, e)
		}
		if x, _, e := console.Parse([]byte(string(b) + whole)); e != api.OK || !same(x, slices.Concat(l, operations)) {
			t.Fatal("two scripts", e)
		}
	}
	// Play of a beginning, and of all operations.
	ops, _, _ := console.Parse([]byte(play))
	all, _ := console.Play([]byte(play), 200)
	for n := range ops {
		b, _ := console.Print(ops[:n])
		x, e := console.Play(b, 200)
		if e != api.OK || !strings.HasPrefix(string(all), string(x)) {
			t.Error(n, e)
		}
	}
	v, _ := vault.New(200)
	_, outcomes := vault.Run(v, ops)
	if n := strings.Count(string(all), " code "); n != len(outcomes) {
		t.Error(n)
	}
}

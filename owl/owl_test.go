package owl_test

import (
	"reflect"
	"slices"
	"strings"
	"testing"

	"veilstone/api"
	"veilstone/owl"
	"veilstone/sample"
	"veilstone/terms"
)

const head = "Prefix(:=<x>)\nPrefix(owl:=<http://www.w3.org/2002/07/owl#>)\nPrefix(xsd:=<http://www.w3.org/2001/XMLSchema#>)\n"

func same(a, b api.Axiom) bool { return terms.CompareAxiom(a, b) == 0 && a.Open == b.Open }

const all = `open A sub some r B. A sub B and some r ({a} and everything). A same nothing. open A disjoint {a}. domain r A. role r sub s.
	chain r s t sub u. reflexive r. type a f in -5 to 1099511627776. link a r b. open link go:a go:r b. hp:A sub age in 0 to 0.`

const allText = `SubClassOf(Annotation(:open "true") :A ObjectSomeValuesFrom(:r :B))
SubClassOf(:A ObjectIntersectionOf(:B ObjectSomeValuesFrom(:r ObjectIntersectionOf(ObjectOneOf(:a) owl:Thing))))
EquivalentClasses(:A owl:Nothing)
DisjointClasses(Annotation(:open "true") :A ObjectOneOf(:a))
ObjectPropertyDomain(:r :A)
SubObjectPropertyOf(Annotation(:open "true") :r :s)
SubObjectPropertyOf(Annotation(:open "true") ObjectPropertyChain(:r :s :t) :u)
ReflexiveObjectProperty(Annotation(:open "true") :r)
ClassAssertion(DataSomeValuesFrom(:f DatatypeRestriction(xsd:integer xsd:minInclusive "-5"^^xsd:integer xsd:maxInclusive "1099511627776"^^xsd:integer)) :a)
ObjectPropertyAssertion(:r :a :b)
ObjectPropertyAssertion(Annotation(:open "true") go:r go:a :b)
SubClassOf(hp:A DataSomeValuesFrom(:age DatatypeRestriction(xsd:integer xsd:minInclusive "0"^^xsd:integer xsd:maxInclusive "0"^^xsd:integer)))
`

// whole returns the axioms of all, the second one of which is not tidy.
func whole() []api.Axiom {
	l := sample.Axioms(all)
	top := api.Concept{Kind: api.TopC}
	l[1].Right.Parts[1].Parts = []api.Concept{{Kind: api.AndC, Parts: []api.Concept{{Kind: api.NominalC, Name: "a"}, top}}}
	l[2].Left, l[2].Right = api.Concept{Kind: api.NamedC, Name: "A"}, api.Concept{Kind: api.BottomC}
	return l
}

// P5.1 and P5.3
func TestWrite(t *testing.T) {
	b, e := owl.Write(whole(), "x")
	want := head + "Prefix(go:=<xgo/>)\nPrefix(hp:=<xhp/>)\nOntology(\n" + allText + ")\n"
	if e != api.OK || string(b) != want {
		t.Errorf("%d\n%s", e, b)
	}
	l, prefix, at, e := owl.Read(b)
	if e != api.OK || prefix != "x" || at != 0 || !slices.EqualFunc(l, whole(), same) {
		t.Error(l, prefix, at, e)
	}
	again, e := owl.Write(l, prefix)
	if e != api.OK || string(again) != want {
		t.Error(e)
	}
	for n := range len(b) - 1 {
		if l, _, at, e := owl.Read(b[:n]); e != api.ErrOwl || at > n || l != nil {
			t.Fatalf("cut off at %d: %d, %d", n, at, e)
		}
	}
	if _, _, _, e := owl.Read(b[:len(b)-1]); e != api.OK {
		t.Error(e)
	}
	if b, e = owl.Write(nil, ""); e != api.OK || string(b) != strings.Replace(head, "<x>", "<>", 1)+"Ontology(\n)\n" {
		t.Errorf("%q, %d", b, e)
	}
}

// P5.1
func TestWriteErrors(t *testing.T) {
	one := sample.Axioms("A sub B.")
	long := strings.Repeat("x", 200)
	many := slices.Repeat(one, api.MaxAxioms)
	for _, x := range []struct {
		l      []api.Axiom
		prefix string
		e      api.Errno
	}{
		{append(many, api.Axiom{}), "<", api.ErrLimit}, {many, "x", api.OK}, {one, long, api.OK}, {one, long + "x", api.ErrOwl}, {one, "a b", api.ErrOwl}, {one, "\x7f", api.ErrOwl}, {one, "a<", api.ErrOwl}, {one, ">", api.ErrOwl}, {one, "\"", api.ErrOwl}, {one, "!~", api.OK},
		{append(slices.Clone(one), api.Axiom{}), "<", api.ErrOwl}, {[]api.Axiom{sample.Axiom("owl:A sub B"), {}}, "x", api.ErrAxiom}, {sample.Axioms("A sub some r owl:A."), "x", api.ErrOwl}, {sample.Axioms("link a xsd:r b."), "x", api.ErrOwl}, {sample.Axioms("type xsd:a xs:A."), "x", api.ErrOwl}, {sample.Axioms("{a} and owl:f in 1 to 2 sub A."), "x", api.ErrOwl},
		{slices.Repeat(sample.Axioms("aaaaaaaaaaaaaaaaaaaaaaaa sub some bbbbbbbbbbbbbbbbbbbbbbbb cccccccccccccccccccccccc."), 800), "x", api.ErrLimit},
	} {
		if b, e := owl.Write(x.l, x.prefix); e != x.e || e != api.OK && len(b) > 0 {
			t.Errorf("%v %.20q: %d", x.l[0], x.prefix, e)
		}
	}
	// Exactly 65536 bytes, and one more.
	none, _ := owl.Write(nil, "")
	long1 := sample.Axioms("A sub some aaaaaaaaaaaaaaaaaaaaaaaa some aaaaaaaaaaaaaaaaaaaaaaaa B.")
	first, _ := owl.Write(long1, "")
	row, left := len(first)-len(none), api.MaxSource-len(none)
	l := slices.Repeat(long1, left/row)
	if b, e := owl.Write(l, strings.Repeat("p", left%row)); e != api.OK || len(b) != api.MaxSource {
		t.Error(len(b), e)
	}
	if b, e := owl.Write(l, strings.Repeat("p", left%row+1)); e != api.ErrLimit || len(b) != 0 {
		t.Error(len(b), e)
	}
}

func expectRead(t *testing.T, src, axioms string) {
	t.Helper()
	l, prefix, at, e := owl.Read([]byte(src))
	if e != api.OK || at != 0 || prefix != "x" || !slices.EqualFunc(l, sample.Axioms(axioms), same) {
		t.Errorf("%q: %v, %q, %d, %d", src, l, prefix, at, e)
	}
}

// P5.2
func TestRead(t *testing.T) {
	expectRead(t, "Prefix(:=<x>) Ontology()", "")
	expectRead(t, " # c ( \n Prefix ( : = <x> )\tOntology\r( <> <a:b#c> ) # c", "")
}

// P5.2
func TestReadAxioms(t *testing.T) {
	h := "Prefix(go:=<y>)" + head
	for text, axioms := range map[string]string{
		"DisjointClasses(:A :B :C)":                                                                                    "A disjoint B. A disjoint C. B disjoint C.",
		"EquivalentClasses(:A :B :C)":                                                                                  "A same B. B same C.",
		"Declaration(Class(:A)) Declaration(ObjectProperty(:3))":                                                       "",
		"Declaration(DataProperty(go:a))Declaration(NamedIndividual(:_))":                                              "",
		`SubClassOf(Annotation(:open "true") :A :B)`:                                                                   "open A sub B.",
		`SubClassOf(Annotation(:open "True") Annotation(go:open "true") :A :B)`:                                        "A sub B.",
		`SubClassOf(Annotation(go:x "") Annotation(:open "true") Annotation(:open "") :A :B)`:                          "open A sub B.",
		"ClassAssertion(DataSomeValuesFrom(:f xsd:integer) :a)":                                                        "type a f in -1099511627776 to 1099511627776.",
		`ClassAssertion(DataSomeValuesFrom(:f DatatypeRestriction(xsd:integer xsd:maxInclusive "5"^^xsd:integer)) :a)`: "type a f in -1099511627776 to 5.",
		`ClassAssertion(DataSomeValuesFrom(:f DatatypeRestriction(xsd:integer xsd:maxInclusive "5" ^^ xsd:integer xsd:minInclusive "-5"^^xsd:integer)) :a)`: "type a f in -5 to 5.",
		"ObjectPropertyAssertion(:r :a go:b)":                      "link a r go:b.",
		`ReflexiveObjectProperty(Annotation(:open "true") :r)`:     "reflexive r.",
		"SubObjectPropertyOf(:r :s)":                               "private role r sub s.",
		"SubObjectPropertyOf(ObjectPropertyChain(:r :s :t :u) :s)": "private chain r s t u sub s.",
		"ObjectPropertyDomain(:r owl:Thing)":                       "domain r everything.",
		"SubClassOf(ObjectOneOf(:a) owl:Nothing)":                  "{a} sub nothing.",
	} {
		l, prefix, at, e := owl.Read([]byte(h + "Ontology(" + text + ")"))
		if e != api.OK || at != 0 || prefix != "x" || !slices.EqualFunc(l, sample.Axioms(axioms), same) {
			t.Errorf("%s: %v, %q, %d, %d", text, l, prefix, at, e)
		}
	}
	// Axioms are not tidied.
	l, _, _, e := owl.Read([]byte(h + "Ontology(SubClassOf(ObjectIntersectionOf(:B :A owl:Thing) :B))"))
	if e != api.OK || len(l) != 1 || len(l[0].Left.Parts) != 3 || l[0].Left.Parts[0].Name != "B" {
		t.Error(l, e)
	}
}

// P5.2
func TestReadErrors(t *testing.T) {
	p := "Prefix(:=<x>) Ontology("
	for src, at := range map[string]int{
		"": 0, "Ontology()": 0, "Prefix(:=<x>) Ontology(SubClassOf(:A owl:Thing))": 37, "Prefix(:=<x>)": 13, "Prefix(:=<x>) Ontology(": 23, "Prefix(:=<x>) Ontology()x": 24, "Prefix(:=<x>) Ontology() %": 25,
		"Prefix(a:=<x>) Ontology()": 15, "Prefix(a=<x>)": 7, "Prefix(1a:=<x>)": 7, "Prefix(_a:=<x>)": 7, "Prefix(a::=<x>)": 7, "Prefix(:a=<x>)": 7, "Prefix(:=<x>) Prefix(:=<y>)": 21, "Prefix(owl:=<x>)": 12, "Prefix(xsd:=<http://www.w3.org/2002/07/owl#>)": 12,
		"Prefix(:=<x)": 9, "Prefix(:=<a b>)": 9, "Prefix(:=\"x\")": 9, "Prefix(:=x": 9, "Prefix(:^": 8, "Prefix(:^^": 8, p + "SubClassOf(:A :B) ) )": 43, "prefix(:=<x>)": 0, "Prefix :": 7,
		p + "<a> <b> <c>)": 31, p + "SubClassOf(:A))": 36, p + "SubClassOf(:A :B": 39, p + "SubClassOf(:A :B :C))": 40, p + "SubClassOf(:A b:B))": 37, p + "SubClassOf(:A :B:C))": 37, p + "SubClassOf(: :B))": 34, p + "SubClassOf(A :B))": 34,
		p + "EquivalentClasses(:A))": 43, p + "Declaration(Klass(:A)))": 35, p + "Declaration(Class(A)))": 41, p + "Declaration(Annotation(:a \"\") Class(:A)))": 35, p + "Foo(:A))": 23, p + "SubObjectPropertyOf(ObjectPropertyChain(:r) :s))": 65,
		p + "ClassAssertion(DataSomeValuesFrom(:f xsd:integer) :a))": 60, p + "SubClassOf(Annotation(:open true) :A :B))": 51, p + "SubClassOf(Annotation(:open \"a\x01\") :A :B))": 51, p + "SubClassOf(Annotation(z:open \"a\") :A :B))": 45,
	} {
		l, prefix, at2, e := owl.Read([]byte(src))
		if e != api.ErrOwl || at2 != at || l != nil || prefix != "" {
			t.Errorf("%q: %d, %d, want %d", src, at2, e, at)
		}
	}
	for facets, wrong := range map[string]string{
		`xsd:minInclusive "05"^^xsd:integer`: `"05"`, `xsd:minInclusive "-0"^^xsd:integer`: `"-0"`, `xsd:minInclusive "+1"^^xsd:integer`: `"+1"`, `xsd:minInclusive ""^^xsd:integer`: `""`, `xsd:minInclusive "1000000000000000000"^^xsd:integer`: `"1000`,
		`xsd:minInclusive "1"^^xsd:integer xsd:minInclusive "1"^^xsd:integer`: "xsd:minInclusive \"1\"^^xsd:integer)", `xsd:min "1"^^xsd:integer`: "xsd:min ", `xsd:minInclusive "1" xsd:integer`: "xsd:integer)", ``: ")) :a", `xsd:minInclusive "1"^^xsd:int`: "xsd:int)", `xsd:minInclusive "1"^^:b`: ":b)",
	} {
		src := head + "Ontology(ClassAssertion(DataSomeValuesFrom(:f DatatypeRestriction(xsd:integer " + facets + ")) :a))"
		if l, _, at, e := owl.Read([]byte(src)); e != api.ErrOwl || at != strings.LastIndex(src, wrong) || l != nil {
			t.Errorf("%s: %d, %d", src[len(head):], at-len(head), e)
		}
	}
	if _, _, at, e := owl.Read(make([]byte, api.MaxSource+1)); at != 0 || e != api.ErrLimit {
		t.Error(at, e)
	}
}

// P5.2: errors of axioms.
func TestReadItems(t *testing.T) {
	for text, code := range map[string]api.Errno{
		"ClassAssertion(ObjectOneOf(:a) :b)": api.ErrAxiom, "SubClassOf(:_A :B)": api.ErrName, "SubClassOf(:and :B)": api.ErrName, "EquivalentClasses(:A :B :3 ObjectOneOf(:a))": api.ErrName, "DisjointClasses(:A :B ObjectSomeValuesFrom(:3 :A))": api.ErrName,
		"SubObjectPropertyOf(ObjectPropertyChain(:r :r :r :r :r) :s)": api.ErrAxiom, "DisjointClasses(" + strings.Repeat(":A ", 46) + ")": api.ErrLimit, "EquivalentClasses(" + strings.Repeat(":A ", 1025) + ")": api.ErrLimit, "DisjointClasses(" + strings.Repeat(":A ", 9000) + ":3)": api.ErrName,
		"SubClassOf(:A ObjectIntersectionOf(" + strings.Repeat(":A ", 9) + "))": api.ErrConcept,
	} {
		// A wrong token behind the item, which is read later.
		src := "Prefix(:=<x>) Ontology(SubClassOf(:A :B) " + text + " %"
		if l, _, at, e := owl.Read([]byte(src)); e != code || at != 41 || l != nil {
			t.Errorf("%.60s: %d, %d", text, at, e)
		}
	}
	l, _, at, e := owl.Read([]byte("Prefix(:=<x>) Ontology(ClassAssertion(ObjectOneOf(:a) :b))"))
	if e != api.ErrAxiom || at != 23 || l != nil {
		t.Error(at, e)
	}
	src := "Prefix(:=<x>) Ontology(EquivalentClasses(" + strings.Repeat(":A ", 1025) + "))"
	if l, _, _, e := owl.Read([]byte(src)); e != api.OK || len(l) != 1024 {
		t.Error(len(l), e)
	}
	if _, _, at, e := owl.Read([]byte(src[:len(src)-1] + " ReflexiveObjectProperty(:r))")); e != api.ErrLimit || at != len(src) {
		t.Error(at, e)
	}
}

// P5.3: blanks and comments have no effect.
func TestBlanks(t *testing.T) {
	b, _ := owl.Write(whole(), "x")
	want, prefix, _, _ := owl.Read(b)
	spread := strings.NewReplacer("(", " (\n", ")", "# )\n) ", "^^", "\r^^ ").Replace(string(b))
	l, prefix2, _, e := owl.Read([]byte(spread))
	if e != api.OK || !reflect.DeepEqual(l, want) || prefix != prefix2 {
		t.Error(e, l)
	}
}

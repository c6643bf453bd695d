package owl

import (
	"slices"
	"strconv"
	"strings"

	"veilstone/api"
	"veilstone/terms"
)

// isPrefix reports whether a text can stand between < and >.
func isPrefix(s string) bool {
	if len(s) > maxPrefix {
		return false
	}
	for i := range len(s) {
		if !inIRI(s[i]) {
			return false
		}
	}
	return true
}

// vocabularies returns what stands before a ":" in the names of valid axioms, in order.
func vocabularies(l []api.Axiom) (words []string) {
	n, _ := terms.Vocabulary(l)
	for _, name := range slices.Concat(n.Concepts, n.Roles, n.Features, n.Individuals) {
		if v, _, ok := strings.Cut(name, ":"); ok {
			words = append(words, v)
		}
	}
	slices.Sort(words)
	return slices.Compact(words)
}

// name returns the word for a name.
func name(s string) string {
	if strings.Contains(s, ":") {
		return s
	}
	return ":" + s
}

// call writes a word with its arguments.
func call(word string, arguments ...string) string {
	return word + "(" + strings.Join(arguments, " ") + ")"
}

func axiomText(a api.Axiom) string {
	word, arguments := statement(a)
	if a.Open {
		arguments = slices.Insert(arguments, 0, openNote)
	}
	return call(word, arguments...)
}

// statement returns the word and the arguments of an axiom, without notes.
func statement(a api.Axiom) (word string, arguments []string) {
	left, right := conceptText(a.Left), conceptText(a.Right)
	switch a.Kind {
	case api.SubA:
		return "SubClassOf", []string{left, right}
	case api.EquivA:
		return "EquivalentClasses", []string{left, right}
	case api.DisjointA:
		return "DisjointClasses", []string{left, right}
	case api.DomainA:
		return "ObjectPropertyDomain", []string{name(a.Role), right}
	case api.RoleSubA:
		return "SubObjectPropertyOf", []string{name(a.Roles[0]), name(a.Role)}
	case api.ChainA:
		var roles []string
		for _, r := range a.Roles {
			roles = append(roles, name(r))
		}
		return "SubObjectPropertyOf", []string{call("ObjectPropertyChain", roles...), name(a.Role)}
	case api.ReflexiveA:
		return "ReflexiveObjectProperty", []string{name(a.Role)}
	case api.TypeA:
		return "ClassAssertion", []string{right, name(a.A)}
	}
	return "ObjectPropertyAssertion", []string{name(a.Role), name(a.A), name(a.B)}
}

func conceptText(c api.Concept) string {
	switch c.Kind {
	case api.TopC:
		return "owl:Thing"
	case api.BottomC:
		return "owl:Nothing"
	case api.NamedC:
		return name(c.Name)
	case api.NominalC:
		return call("ObjectOneOf", name(c.Name))
	case api.AndC:
		var parts []string
		for _, p := range c.Parts {
			parts = append(parts, conceptText(p))
		}
		return call("ObjectIntersectionOf", parts...)
	case api.SomeC:
		return call("ObjectSomeValuesFrom", name(c.Name), conceptText(c.Parts[0]))
	case api.RangeC:
		values := call("DatatypeRestriction", integer, facet("xsd:minInclusive", c.Lo), facet("xsd:maxInclusive", c.Hi))
		return call("DataSomeValuesFrom", name(c.Name), values)
	}
	return "" // a concept that is not used
}

func facet(word string, n int) string {
	return word + ` "` + strconv.Itoa(n) + `"^^` + integer
}

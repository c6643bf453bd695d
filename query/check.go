package query

import (
	"slices"
	"strings"

	"veilstone/api"
	"veilstone/roles"
	"veilstone/terms"
)

// maxVariable is the greatest length of a variable.
const maxVariable = 17

// rule says which fields the atoms of a kind use.
type rule struct {
	known, second, interval bool
}

// rules contains the rules of each kind of atom.
var rules = [4]rule{
	api.ConceptQ: {known: true},
	api.RoleQ:    {known: true, second: true},
	api.RangeQ:   {known: true, interval: true},
}

func isVariable(s string) bool {
	if len(s) < 2 || len(s) > maxVariable || s[0] != '?' || !isLetter(s[1]) {
		return false
	}
	for i := range len(s) - 1 {
		if b := s[i+1]; !isLetter(b) && b != '_' && (b < '0' || b > '9') {
			return false
		}
	}
	return true
}

func isLetter(b byte) bool { return 'a' <= b && b <= 'z' || 'A' <= b && b <= 'Z' }

// isName reports whether a text is a name that is not reserved.
func isName(s string) bool { return terms.CheckName(s) == api.OK && s[0] != '_' }

func isTerm(s string) bool { return isVariable(s) || isName(s) }

// Check validates a query for axioms.
func Check(q api.Query, l []api.Axiom) (e api.Errno) {
	if len(q.Parts) < 1 || len(q.Parts) > api.MaxQuery || len(q.Told) > api.MaxTold {
		return api.ErrQuery
	}
	for _, p := range q.Parts {
		if len(p.Atoms) < 1 || len(p.Atoms) > api.MaxAtoms {
			return api.ErrQuery
		}
	}
	for _, p := range q.Parts {
		for _, a := range p.Atoms {
			if e := checkAtom(a); e != api.OK {
				return e
			}
		}
	}
	if e := checkTold(q); e != api.OK {
		return e
	}
	for _, p := range q.Parts {
		if len(Variables(p)) > api.MaxVariables {
			return api.ErrQuery
		}
	}
	return checkSimple(q, l)
}

func checkAtom(a api.Atom) api.Errno {
	if a.Kind < 0 || a.Kind >= len(rules) {
		return api.ErrQuery
	}
	r := rules[a.Kind]
	switch {
	case !r.known,
		!r.second && a.Y != "",
		!r.interval && (a.Lo != 0 || a.Hi != 0),
		a.Lo > a.Hi || a.Lo < -api.MaxNumber || a.Hi > api.MaxNumber:
		return api.ErrQuery
	case !isName(a.Name), !isTerm(a.X), r.second && !isTerm(a.Y):
		return api.ErrName
	}
	return api.OK
}

func checkTold(q api.Query) api.Errno {
	for _, v := range q.Told {
		if !isVariable(v) {
			return api.ErrName
		}
	}
	for i, v := range q.Told {
		if slices.Contains(q.Told[:i], v) {
			return api.ErrQuery
		}
		for _, p := range q.Parts {
			if !slices.Contains(Variables(p), v) {
				return api.ErrQuery
			}
		}
	}
	return api.OK
}

// checkSimple validates that only told variables and individuals stand at roles that are not simple.
func checkSimple(q api.Query, l []api.Axiom) api.Errno {
	for _, a := range l {
		if e := terms.CheckAxiom(a); e != api.OK {
			return e
		}
	}
	if len(l) == 0 {
		return api.OK // all roles are simple
	}
	free := func(t string) bool { return strings.HasPrefix(t, "?") && !slices.Contains(q.Told, t) }
	for _, p := range q.Parts {
		for _, a := range p.Atoms {
			if a.Kind != api.RoleQ || !free(a.X) && !free(a.Y) {
				continue
			}
			if ok, e := roles.Simple(l, a.Name); e != api.OK {
				return e
			} else if !ok {
				return api.ErrSimple
			}
		}
	}
	return api.OK
}

package terms

import (
	"iter"

	"veilstone/api"
)

// Requirements of a name.
const (
	noName = iota
	plainName
	anyName
)

// conceptRow contains what is required of the concepts of a kind.
type conceptRow struct {
	known       bool
	name        int
	few, many   int // parts
	hasInterval bool
}

// conceptRows contains the requirements of each kind of concept.
var conceptRows = [8]conceptRow{
	api.TopC:     {known: true},
	api.BottomC:  {known: true},
	api.NamedC:   {known: true, name: plainName},
	api.NominalC: {known: true, name: anyName},
	api.AndC:     {known: true, few: 2, many: api.MaxParts},
	api.SomeC:    {known: true, name: plainName, few: 1, many: 1},
	api.RangeC:   {known: true, name: plainName, hasInterval: true},
}

// axiomRow contains which fields the axioms of a kind use.
type axiomRow struct {
	known       bool
	left, right bool
	few, many   int // roles of the list
	role, a, b  bool
	// positiveLeft and positiveRight say that an individual may stand there only behind a role.
	positiveLeft, positiveRight bool
}

// axiomRows contains the requirements of each kind of axiom.
var axiomRows = [10]axiomRow{
	api.SubA:       {known: true, left: true, right: true, positiveRight: true},
	api.EquivA:     {known: true, left: true, right: true, positiveLeft: true, positiveRight: true},
	api.DisjointA:  {known: true, left: true, right: true},
	api.DomainA:    {known: true, right: true, role: true, positiveRight: true},
	api.RoleSubA:   {known: true, few: 1, many: 1, role: true},
	api.ChainA:     {known: true, few: 2, many: api.MaxChain, role: true},
	api.ReflexiveA: {known: true, role: true},
	api.TypeA:      {known: true, right: true, a: true, positiveRight: true},
	api.LinkA:      {known: true, role: true, a: true, b: true},
}

// walk enumerates a concept and then its parts, each with its own parts.
func walk(c api.Concept) iter.Seq[api.Concept] {
	return func(yield func(api.Concept) bool) { walkInto(c, yield) }
}

func walkInto(c api.Concept, yield func(api.Concept) bool) bool {
	if !yield(c) {
		return false
	}
	for _, p := range c.Parts {
		if !walkInto(p, yield) {
			return false
		}
	}
	return true
}

// CheckConcept validates a concept.
func CheckConcept(c api.Concept) (e api.Errno) {
	if Depth(c) > api.MaxDepth || Size(c) > api.MaxSize {
		return api.ErrConcept
	}
	for x := range walk(c) {
		if e := checkNode(x); e != api.OK {
			return e
		}
	}
	return api.OK
}

// checkNode validates a concept without its parts.
func checkNode(c api.Concept) api.Errno {
	if c.Kind < 0 || c.Kind >= len(conceptRows) {
		return api.ErrConcept
	}
	row := conceptRows[c.Kind]
	if !row.known || len(c.Parts) < row.few || len(c.Parts) > row.many || row.name == noName && c.Name != "" {
		return api.ErrConcept
	}
	if !row.hasInterval && (c.Lo != 0 || c.Hi != 0) {
		return api.ErrConcept
	}
	if c.Lo > c.Hi || c.Lo < -api.MaxNumber || c.Hi > api.MaxNumber {
		return api.ErrConcept
	}
	if row.name == plainName && !isPlain(c.Name) || row.name == anyName && CheckName(c.Name) != api.OK {
		return api.ErrName
	}
	return api.OK
}

// CheckAxiom validates an axiom.
func CheckAxiom(a api.Axiom) (e api.Errno) {
	if a.Kind < 0 || a.Kind >= len(axiomRows) {
		return api.ErrAxiom
	}
	row := axiomRows[a.Kind]
	if !row.fits(a) {
		return api.ErrAxiom
	}
	if !row.namesFit(a) {
		return api.ErrName
	}
	for _, x := range []struct {
		used bool
		c    api.Concept
	}{{row.left, a.Left}, {row.right, a.Right}} {
		if !x.used {
			continue
		}
		if e := CheckConcept(x.c); e != api.OK {
			return e
		}
	}
	if row.positiveLeft && bareNominal(a.Left) || row.positiveRight && bareNominal(a.Right) {
		return api.ErrAxiom
	}
	return api.OK
}

// fits reports whether the fields that are not used are zero and the list of roles has the right length.
func (row axiomRow) fits(a api.Axiom) bool {
	return row.known &&
		(row.left || isEmpty(a.Left)) && (row.right || isEmpty(a.Right)) &&
		len(a.Roles) >= row.few && len(a.Roles) <= row.many &&
		(row.role || a.Role == "") && (row.a || a.A == "") && (row.b || a.B == "")
}

// namesFit reports whether the names that are used are names.
func (row axiomRow) namesFit(a api.Axiom) bool {
	for _, r := range a.Roles {
		if !isPlain(r) {
			return false
		}
	}
	return (!row.role || isPlain(a.Role)) &&
		(!row.a || CheckName(a.A) == api.OK) && (!row.b || CheckName(a.B) == api.OK)
}

// isEmpty reports whether all fields of a concept are zero.
func isEmpty(c api.Concept) bool {
	return c.Kind == 0 && c.Name == "" && c.Lo == 0 && c.Hi == 0 && len(c.Parts) == 0
}

// bareNominal reports whether an individual occurs in a concept other than behind a role.
func bareNominal(c api.Concept) bool {
	switch c.Kind {
	case api.NominalC:
		return true
	case api.SomeC:
		return false
	}
	for _, p := range c.Parts {
		if bareNominal(p) {
			return true
		}
	}
	return false
}

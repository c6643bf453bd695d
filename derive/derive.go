// Package derive applies the rules of chapter 10 to facts. Packages saturate, proof and increment decide what is done with the conclusions.
package derive

import (
	"cmp"
	"slices"

	"veilstone/api"
)

// Fact is a fact whose strings are numbered, in the order of the strings; the empty string is 0.
type Fact struct {
	Kind, A, B, R int32
	Lo, Hi        int
}

// Compare orders facts.
func Compare(f, g Fact) int {
	return cmp.Or(cmp.Compare(f.Kind, g.Kind), cmp.Compare(f.A, g.A), cmp.Compare(f.B, g.B),
		cmp.Compare(f.R, g.R), cmp.Compare(f.Lo, g.Lo), cmp.Compare(f.Hi, g.Hi))
}

// Step is an instance of a rule: its premises are the first Many elements of From, and the piece with the index Piece (-1: none).
type Step struct {
	Rule, Piece int
	Fact        Fact
	From        [2]Fact
	Many        int
}

// Rule reports all instances of a rule in which a fact is a premise and all other premises are facts of the engine.
type Rule func(f Fact, report func(Step))

// piece is a piece with its index, whose strings are numbered.
type piece struct {
	index            int
	a, b, c, r, s, t int32
	lo, hi           int
}

// Ways in which a piece is found, besides its kind.
const (
	secondAnd = 100 + iota
	secondChain
	fillByAtom
)

// key says how a piece is found: its kind, or one of the ways above, and an atom or a role.
type key struct {
	way int
	at  int32
}

// end is an end of a link, with its role.
type end struct{ atom, role int32 }

// Engine keeps pieces and facts so that rules find what they can be combined with.
type Engine struct {
	names       []string
	numbers     map[string]int32
	top, bottom int32
	atoms       []int32
	loops       []piece
	pieces      map[key][]piece
	known       map[Fact]bool
	out, into   map[end][]int32 // the other ends of the links from and to an atom by a role
	intoAny     map[int32][]end
	ranges      map[end][]Fact
}

// New returns an engine with pieces, and without facts. Only strings of the pieces and of the given facts may occur in facts.
func New(p []api.Piece, facts ...[]api.Fact) *Engine {
	e := &Engine{
		numbers: map[string]int32{}, pieces: map[key][]piece{}, known: map[Fact]bool{},
		out: map[end][]int32{}, into: map[end][]int32{}, intoAny: map[int32][]end{}, ranges: map[end][]Fact{},
	}
	e.name(p, facts)
	atoms := map[int32]bool{e.top: true, e.bottom: true}
	for i, x := range p {
		e.addPiece(x, i)
		for _, s := range [3]string{x.A, x.B, x.C} {
			if s != "" {
				atoms[e.numbers[s]] = true
			}
		}
	}
	for a := range atoms {
		e.atoms = append(e.atoms, a)
	}
	slices.Sort(e.atoms)
	return e
}

// name numbers all strings in their order.
func (e *Engine) name(p []api.Piece, facts [][]api.Fact) {
	used := map[string]bool{"": true, "*": true, "!": true}
	for _, x := range p {
		for _, s := range [6]string{x.A, x.B, x.C, x.R, x.S, x.T} {
			used[s] = true
		}
	}
	for _, l := range facts {
		for _, f := range l {
			used[f.A], used[f.B], used[f.R] = true, true, true
		}
	}
	for s := range used {
		e.names = append(e.names, s)
	}
	slices.Sort(e.names)
	for i, s := range e.names {
		e.numbers[s] = int32(i)
	}
	e.top, e.bottom = e.numbers["*"], e.numbers["!"]
}

func (e *Engine) addPiece(x api.Piece, index int) {
	n := e.numbers
	p := piece{index, n[x.A], n[x.B], n[x.C], n[x.R], n[x.S], n[x.T], x.Lo, x.Hi}
	put := func(way int, at int32) { e.pieces[key{way, at}] = append(e.pieces[key{way, at}], p) }
	switch x.Kind {
	case api.SubP, api.SomeP, api.InP:
		put(x.Kind, p.a)
	case api.AndP:
		put(api.AndP, p.a)
		put(secondAnd, p.b)
	case api.FillP:
		put(api.FillP, p.r)
		put(fillByAtom, p.a)
	case api.RoleP, api.OutP:
		put(x.Kind, p.r)
	case api.ChainP:
		put(api.ChainP, p.r)
		put(secondChain, p.s)
	case api.LoopP:
		e.loops = append(e.loops, p)
	}
}

// Number returns a fact with numbers for its strings.
func (e *Engine) Number(f api.Fact) Fact {
	return Fact{int32(f.Kind), e.numbers[f.A], e.numbers[f.B], e.numbers[f.R], f.Lo, f.Hi}
}

// Text returns a fact with its strings.
func (e *Engine) Text(f Fact) api.Fact {
	return api.Fact{Kind: int(f.Kind), A: e.names[f.A], B: e.names[f.B], R: e.names[f.R], Lo: f.Lo, Hi: f.Hi}
}

// Atoms returns the atoms of the pieces.
func (e *Engine) Atoms() (l []string) {
	for _, a := range e.atoms {
		l = append(l, e.names[a])
	}
	return l
}

// Has reports whether a fact was added.
func (e *Engine) Has(f Fact) bool { return e.known[f] }

// Add adds a fact; it reports whether it is new.
func (e *Engine) Add(f Fact) bool {
	if e.known[f] {
		return false
	}
	e.known[f] = true
	switch f.Kind {
	case api.LinkF:
		e.out[end{f.A, f.R}] = append(e.out[end{f.A, f.R}], f.B)
		e.into[end{f.B, f.R}] = append(e.into[end{f.B, f.R}], f.A)
		e.intoAny[f.B] = append(e.intoAny[f.B], end{f.A, f.R})
	case api.RangeF:
		e.ranges[end{f.A, f.R}] = append(e.ranges[end{f.A, f.R}], f)
	}
	return true
}

// Start reports the instances of the rules without facts as premises.
func (e *Engine) Start(report func(Step)) {
	for _, a := range e.atoms {
		report(Step{Rule: 1, Piece: -1, Fact: sub(a, a)})
		report(Step{Rule: 2, Piece: -1, Fact: sub(a, e.top)})
		for _, p := range e.loops {
			report(Step{Rule: 10, Piece: p.index, Fact: link(a, p.r, a)})
		}
	}
}

// Rules returns the rules for each kind of fact.
func (e *Engine) Rules() [4][]Rule {
	return [4][]Rule{
		api.SubF:   {e.include, e.conjoin, e.relate, e.fillBelow, e.emptyBelow, e.value},
		api.LinkF:  {e.widen, e.chainOn, e.chainBack, e.fill, e.empty},
		api.RangeF: {e.meet, e.leave},
	}
}

func sub(a, b int32) Fact     { return Fact{Kind: api.SubF, A: a, B: b} }
func link(a, r, b int32) Fact { return Fact{Kind: api.LinkF, A: a, R: r, B: b} }

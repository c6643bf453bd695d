package checker

import (
	"veilstone/api"
	"veilstone/interval"
	"veilstone/normal"
)

const (
	topAtom    = "*"
	bottomAtom = "!"
)

// incorrect is what the rules panic with.
type incorrect struct{}

// require ends the examination of a step unless a condition holds.
func require(ok bool) {
	if !ok {
		panic(incorrect{})
	}
}

// trial examines steps for some pieces.
type trial struct {
	pieces []api.Piece
	atoms  map[string]bool
	rules  [17]func(*instance)
}

func newTrial(p []api.Piece) *trial {
	t := &trial{pieces: p, atoms: map[string]bool{topAtom: true, bottomAtom: true}}
	for _, a := range normal.Atoms(p) {
		t.atoms[a] = true
	}
	t.rules = [17]func(*instance){
		1: itself, 2: everything, 3: include, 4: conjoin, 5: relate, 6: widen, 7: chain, 8: fill, 9: empty,
		10: loop, 11: value, 12: meet, 13: apart, 14: leave, 15: fromNothing, 16: widerRange,
	}
	return t
}

// instance is a step that is examined: its conclusion, its premises and its piece.
type instance struct {
	trial    *trial
	step     api.Step
	fact     api.Fact
	premises []api.Fact
}

// step returns ErrProof unless a step is correct for a list of facts.
func (t *trial) step(facts []api.Fact, s api.Step) (e api.Errno) {
	defer func() {
		if recover() != nil {
			e = api.ErrProof
		}
	}()
	require(s.Rule >= 1 && s.Rule < len(t.rules))
	require(isWellFormed(s.Fact))
	x := &instance{trial: t, step: s, fact: s.Fact}
	for _, n := range s.From {
		require(n >= 0 && n < len(facts) && isWellFormed(facts[n]))
		x.premises = append(x.premises, facts[n])
	}
	t.rules[s.Rule](x)
	return api.OK
}

// isWellFormed reports whether a fact consists of valid atoms, roles and intervals. It is one exactly if it fits into a valid piece.
func isWellFormed(f api.Fact) bool {
	p := api.Piece{From: -1}
	switch f.Kind {
	case api.SubF:
		p.Kind, p.A, p.C, p.R, p.Lo, p.Hi = api.SubP, f.A, f.B, f.R, f.Lo, f.Hi
	case api.LinkF:
		p.Kind, p.A, p.C, p.R, p.Lo, p.Hi = api.SomeP, f.A, f.B, f.R, f.Lo, f.Hi
	case api.RangeF:
		p.Kind, p.A, p.B, p.R, p.Lo, p.Hi = api.InP, f.A, f.B, f.R, f.Lo, f.Hi
	}
	return normal.Check([]api.Piece{p}) == api.OK
}

// given returns the premises, which must be as many and of the given kinds.
func (x *instance) given(kinds ...int) []api.Fact {
	require(len(x.premises) == len(kinds))
	for i, k := range kinds {
		require(x.premises[i].Kind == k)
	}
	return x.premises
}

// piece returns the piece, which must be of the given kind; 0: there is none.
func (x *instance) piece(kind int) (p api.Piece) {
	if kind == 0 {
		require(x.step.Piece == -1)
		return p
	}
	require(x.step.Piece >= 0 && x.step.Piece < len(x.trial.pieces))
	p = x.trial.pieces[x.step.Piece]
	require(p.Kind == kind)
	return p
}

// concludes requires that the conclusion is a fact.
func (x *instance) concludes(f api.Fact) { require(x.fact == f) }

func sub(a, b string) api.Fact     { return api.Fact{Kind: api.SubF, A: a, B: b} }
func link(a, r, b string) api.Fact { return api.Fact{Kind: api.LinkF, A: a, R: r, B: b} }

func ranged(a, r string, i api.Interval) api.Fact {
	return api.Fact{Kind: api.RangeF, A: a, R: r, Lo: i.Lo, Hi: i.Hi}
}

func values(f api.Fact) api.Interval { return api.Interval{Lo: f.Lo, Hi: f.Hi} }

// axiomatic checks a rule without premises about an atom of the pieces.
func (x *instance) axiomatic(kind int) api.Piece {
	x.given()
	require(x.trial.atoms[x.fact.A])
	return x.piece(kind)
}

func itself(x *instance) {
	x.axiomatic(0)
	x.concludes(sub(x.fact.A, x.fact.A))
}

func everything(x *instance) {
	x.axiomatic(0)
	x.concludes(sub(x.fact.A, topAtom))
}

func include(x *instance) {
	f, p := x.given(api.SubF), x.piece(api.SubP)
	require(f[0].B == p.A)
	x.concludes(sub(f[0].A, p.C))
}

func conjoin(x *instance) {
	f, p := x.given(api.SubF, api.SubF), x.piece(api.AndP)
	require(f[0].A == f[1].A && f[0].B == p.A && f[1].B == p.B)
	x.concludes(sub(f[0].A, p.C))
}

func relate(x *instance) {
	f, p := x.given(api.SubF), x.piece(api.SomeP)
	require(f[0].B == p.A)
	x.concludes(link(f[0].A, p.R, p.C))
}

func widen(x *instance) {
	f, p := x.given(api.LinkF), x.piece(api.RoleP)
	require(f[0].R == p.R)
	x.concludes(link(f[0].A, p.T, f[0].B))
}

func chain(x *instance) {
	f, p := x.given(api.LinkF, api.LinkF), x.piece(api.ChainP)
	require(f[0].B == f[1].A && f[0].R == p.R && f[1].R == p.S)
	x.concludes(link(f[0].A, p.T, f[1].B))
}

func fill(x *instance) {
	f, p := x.given(api.LinkF, api.SubF), x.piece(api.FillP)
	require(f[0].B == f[1].A && f[0].R == p.R && f[1].B == p.A)
	x.concludes(sub(f[0].A, p.C))
}

func empty(x *instance) {
	f := x.given(api.LinkF, api.SubF)
	x.piece(0)
	require(f[0].B == f[1].A && f[1].B == bottomAtom)
	x.concludes(sub(f[0].A, bottomAtom))
}

func loop(x *instance) {
	p := x.axiomatic(api.LoopP)
	x.concludes(link(x.fact.A, p.R, x.fact.A))
}

func value(x *instance) {
	f, p := x.given(api.SubF), x.piece(api.InP)
	require(f[0].B == p.A)
	x.concludes(ranged(f[0].A, p.R, api.Interval{Lo: p.Lo, Hi: p.Hi}))
}

// both checks the premises of the rules 12 and 13 and returns what their intervals have in common.
func (x *instance) both() (i api.Interval, e api.Errno) {
	f := x.given(api.RangeF, api.RangeF)
	x.piece(0)
	require(f[0].A == f[1].A && f[0].R == f[1].R)
	return interval.Meet(values(f[0]), values(f[1]))
}

func meet(x *instance) {
	i, e := x.both()
	require(e == api.OK)
	x.concludes(ranged(x.premises[0].A, x.premises[0].R, i))
}

func apart(x *instance) {
	_, e := x.both()
	require(e == api.ErrInterval)
	x.concludes(sub(x.premises[0].A, bottomAtom))
}

func leave(x *instance) {
	f, p := x.given(api.RangeF), x.piece(api.OutP)
	require(f[0].R == p.R && interval.Within(values(f[0]), api.Interval{Lo: p.Lo, Hi: p.Hi}))
	x.concludes(sub(f[0].A, p.C))
}

func fromNothing(x *instance) {
	f := x.given(api.SubF)
	x.piece(0)
	require(f[0].B == bottomAtom && f[0].A == x.fact.A)
}

func widerRange(x *instance) {
	f := x.given(api.RangeF)
	x.piece(0)
	require(interval.Within(values(f[0]), values(x.fact)))
	x.concludes(ranged(f[0].A, f[0].R, values(x.fact)))
}

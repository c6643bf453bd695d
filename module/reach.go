package module

import "veilstone/api"

const (
	topAtom    = "*"
	bottomAtom = "!"
)

// Kinds of symbols.
const (
	atomS = iota
	roleS
	featureS
)

// symbol is an atom, a role or a feature.
type symbol struct {
	kind int
	name string
}

func atom(name string) symbol { return symbol{atomS, name} }
func role(name string) symbol { return symbol{roleS, name} }

// needs returns what must be reachable so that a piece can be used, and what is reachable then.
func needs(p api.Piece) (from, to []symbol) {
	a, c, r, t := atom(p.A), atom(p.C), role(p.R), role(p.T)
	feature := symbol{featureS, p.R}
	switch p.Kind {
	case api.SubP:
		return []symbol{a}, []symbol{c}
	case api.AndP:
		return []symbol{a, atom(p.B)}, []symbol{c}
	case api.SomeP:
		return []symbol{a}, []symbol{r, c}
	case api.FillP:
		return []symbol{r, a}, []symbol{c}
	case api.RoleP:
		return []symbol{r}, []symbol{t}
	case api.ChainP:
		return []symbol{r, role(p.S)}, []symbol{t}
	case api.LoopP:
		return nil, []symbol{r}
	case api.InP:
		return []symbol{a}, []symbol{feature}
	}
	return []symbol{feature}, []symbol{c} // OutP
}

// reach returns what can be reached from some atoms, and which pieces can be used.
func reach(p []api.Piece, start []string) (reached map[symbol]bool, used []bool) {
	reached, used = map[symbol]bool{}, make([]bool, len(p))
	waiting := map[int]int{}      // how many symbols each piece still waits for
	waits := map[symbol][]int{}   // the pieces that wait for a symbol
	results := map[int][]symbol{} // what is reachable by a piece
	var work []symbol
	add := func(l ...symbol) {
		for _, s := range l {
			if !reached[s] {
				reached[s] = true
				work = append(work, s)
			}
		}
	}
	use := func(i int) {
		used[i] = true
		add(results[i]...)
	}
	add(atom(topAtom), atom(bottomAtom))
	for _, s := range start {
		add(atom(s))
	}
	for i, x := range p {
		from, to := needs(x)
		results[i] = to
		waiting[i] = len(from)
		for _, s := range from {
			waits[s] = append(waits[s], i)
		}
		if len(from) == 0 {
			use(i)
		}
	}
	for len(work) > 0 {
		s := work[0]
		work = work[1:]
		for _, i := range waits[s] {
			// A piece that waits for the same symbol twice stands in its list twice.
			if waiting[i]--; waiting[i] == 0 {
				use(i)
			}
		}
	}
	return reached, used
}

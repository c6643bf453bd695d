package roles

import (
	"strconv"

	"veilstone/api"
)

// grammar contains the rules for words: roles and beginnings of chains are numbered.
type grammar struct {
	ids    map[string]int // of the roles
	size   int            // of roles and beginnings of chains
	empty  []int          // what has the word without elements
	single [][2]int       // a word of the first is one of the second
	pairs  [][3]int       // words of the first and of the second are, joined, one of the third
}

func (g *grammar) id(role string) int {
	n, ok := g.ids[role]
	if !ok {
		n = g.size
		g.ids[role] = n
		g.size++
	}
	return n
}

// grammarOf returns the rules of axioms, with numbers for further roles.
func grammarOf(l []api.Axiom, word []string, role string) *grammar {
	g := &grammar{ids: map[string]int{}}
	g.id(role)
	for _, r := range word {
		g.id(r)
	}
	beginnings := map[string]int{}
	for _, a := range l {
		switch a.Kind {
		case api.ReflexiveA:
			g.empty = append(g.empty, g.id(a.Role))
		case api.RoleSubA:
			g.single = append(g.single, [2]int{g.id(a.Roles[0]), g.id(a.Role)})
		case api.ChainA:
			g.chain(a, beginnings)
		}
	}
	return g
}

// chain adds the rules of a chain, with numbers for its beginnings.
func (g *grammar) chain(a api.Axiom, beginnings map[string]int) {
	first, key := g.id(a.Roles[0]), ""
	for i := 1; i < len(a.Roles)-1; i++ {
		second := g.id(a.Roles[i])
		key = key + strconv.Itoa(first) + " " + strconv.Itoa(second) + " "
		n, ok := beginnings[key]
		if !ok {
			n = g.size
			beginnings[key] = n
			g.size++
			g.pairs = append(g.pairs, [3]int{first, second, n})
		}
		first = n
	}
	g.pairs = append(g.pairs, [3]int{first, g.id(a.Roles[len(a.Roles)-1]), g.id(a.Role)})
}

// recognize reports for each number whether the whole word is one of its words.
func (g *grammar) recognize(word []string) []bool {
	// The element at i and j is what has the elements from i to j - 1 as a word.
	var table [maxWord + 1][maxWord + 1][]bool
	fill := func(i, j int) {
		cell := make([]bool, g.size)
		table[i][j] = cell
		if i == j {
			for _, n := range g.empty {
				cell[n] = true
			}
		}
		if i+1 == j {
			cell[g.ids[word[i]]] = true
		}
		// Only shorter words, each at least one element long, are fixed; the rest is repeated until nothing is added.
		for k := i + 1; k < j; k++ {
			for _, p := range g.pairs {
				if table[i][k][p[0]] && table[k][j][p[1]] {
					cell[p[2]] = true
				}
			}
		}
		for changed := true; changed; {
			changed = false
			set := func(n int) {
				changed = changed || !cell[n]
				cell[n] = true
			}
			for _, s := range g.single {
				if cell[s[0]] {
					set(s[1])
				}
			}
			for _, p := range g.pairs {
				if table[i][i][p[0]] && cell[p[1]] || cell[p[0]] && table[j][j][p[1]] {
					set(p[2])
				}
			}
		}
	}
	for i := range len(word) + 1 {
		fill(i, i)
	}
	for n := 1; n <= len(word); n++ {
		for i := 0; i+n <= len(word); i++ {
			fill(i, i+n)
		}
	}
	return table[0][len(word)]
}

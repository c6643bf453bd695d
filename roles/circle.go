package roles

import (
	"maps"
	"slices"

	"veilstone/api"
)

// stepMap contains, for each role, the roles to which there is a step, and whether it is strict.
type stepMap map[string]map[string]bool

func (m stepMap) add(from, to string, strict bool) {
	if m[from] == nil {
		m[from] = map[string]bool{}
	}
	m[from][to] = m[from][to] || strict
}

// steps returns the steps between the roles of axioms.
func steps(l []api.Axiom) stepMap {
	m := stepMap{}
	for _, a := range l {
		switch a.Kind {
		case api.RoleSubA:
			if a.Roles[0] != a.Role {
				m.add(a.Roles[0], a.Role, false)
			}
		case api.ChainA:
			for i, r := range a.Roles {
				if !exempt(a, i) {
					m.add(r, a.Role, true)
				}
			}
		}
	}
	return m
}

// exempt reports whether a role of a chain is exempt.
func exempt(a api.Axiom, i int) bool {
	if a.Roles[i] != a.Role {
		return false
	}
	last := len(a.Roles) - 1
	same := 0
	for _, r := range a.Roles {
		if r == a.Role {
			same++
		}
	}
	return same == 1 && (i == 0 || i == last) || same == 2 && last == 1
}

// state is a role on a way, and whether the way had a strict step.
type state struct {
	role   string
	strict bool
}

// smallest returns the circle with the fewest roles that is the first lexicographically, or nil.
func smallest(m stepMap) []string {
	if !anyCircle(m) {
		return nil
	}
	back := map[string][]string{}
	for from, l := range m {
		for to := range l {
			back[to] = append(back[to], from)
		}
	}
	var best []string
	for _, start := range slices.Sorted(maps.Keys(m)) {
		if c := circleFrom(m, back, start, len(best)); c != nil {
			best = c
		}
	}
	return best
}

// anyCircle reports whether there is a circle: a strict step within a class of roles that reach each other.
func anyCircle(m stepMap) bool {
	class := classes(m)
	for from, l := range m {
		for to, strict := range l {
			if strict && class[from] == class[to] {
				return true
			}
		}
	}
	return false
}

// classes gives each role a number, the same one to roles that reach each other.
func classes(m stepMap) map[string]int {
	back := map[string][]string{}
	next := map[string][]string{}
	for from, l := range m {
		for to := range l {
			next[from] = append(next[from], to)
			back[to] = append(back[to], from)
		}
	}
	class := map[string]int{}
	finished := finishOrder(next)
	for i := len(finished) - 1; i >= 0; i-- {
		if class[finished[i]] != 0 {
			continue
		}
		queue := []string{finished[i]}
		class[finished[i]] = i + 1
		for len(queue) > 0 {
			r := queue[0]
			queue = queue[1:]
			for _, s := range back[r] {
				if class[s] == 0 {
					class[s] = i + 1
					queue = append(queue, s)
				}
			}
		}
	}
	return class
}

// finishOrder returns the roles in an order in which a search that goes deeper first leaves them.
func finishOrder(next map[string][]string) (order []string) {
	type frame struct {
		role string
		at   int
	}
	seen := map[string]bool{}
	for root := range next {
		if seen[root] {
			continue
		}
		seen[root] = true
		stack := []frame{{role: root}}
	deeper:
		for len(stack) > 0 {
			top := &stack[len(stack)-1]
			for top.at < len(next[top.role]) {
				s := next[top.role][top.at]
				top.at++
				if !seen[s] {
					seen[s] = true
					stack = append(stack, frame{role: s})
					continue deeper
				}
			}
			order = append(order, top.role)
			stack = stack[:len(stack)-1]
		}
	}
	return order
}

// circleFrom returns the least of the shortest circles that begin with a role, if it has fewer roles than most (0: any number).
func circleFrom(m stepMap, back map[string][]string, start string, most int) []string {
	goal := state{start, true}
	far := map[state]int{goal: 0} // the number of steps to the goal
	queue := []state{goal}
	found := false
search:
	for len(queue) > 0 {
		to := queue[0]
		queue = queue[1:]
		if most > 0 && far[to]+1 >= most {
			break
		}
		for _, r := range back[to.role] {
			for _, strict := range []bool{false, true} {
				from := state{r, strict}
				if _, ok := far[from]; ok || (strict || m[r][to.role]) != to.strict {
					continue
				}
				far[from] = far[to] + 1
				if from == (state{start, false}) {
					found = true
					break search
				}
				queue = append(queue, from)
			}
		}
	}
	if !found {
		return nil
	}
	return leastWay(m, far, start)
}

// leastWay follows the distances from the start to the goal, each time to the least role.
func leastWay(m stepMap, far map[state]int, start string) (way []string) {
	at := state{start, false}
	for range far[at] {
		way = append(way, at.role)
		best, ok := state{}, false
		for role, strict := range m[at.role] {
			to := state{role, at.strict || strict}
			if n, known := far[to]; known && n == far[at]-1 && (!ok || to.role < best.role) {
				best, ok = to, true
			}
		}
		at = best
	}
	return way
}

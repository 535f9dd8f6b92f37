package cause

import (
	"pendule/api"
	"pendule/scope"
)

// sources tells of each item of a node which items define what it reads.
type sources [][]int

func sourcesOf(l []api.Item) sources {
	first := definers(l)
	s := make(sources, len(l))
	for b, i := range l {
		for _, v := range Reads(i.E) {
			if d, ok := first[v]; ok {
				s[b] = append(s[b], d)
			}
		}
	}
	return s
}

// definers returns, for each name, the first item that defines it.
func definers(l []api.Item) map[string]int {
	first := map[string]int{}
	for b, i := range l {
		// What a node with this item alone has as its variables is what the item defines.
		for _, v := range scope.Vars(api.Node{Items: []api.Item{i}}) {
			if _, ok := first[v]; !ok {
				first[v] = b
			}
		}
	}
	return first
}

// firstInCircle returns the first item that defines a variable that waits for itself, and whether there is one.
func (s sources) firstInCircle() (int, bool) {
	for b := range s {
		if s.leads(b, b, make([]bool, len(s))) {
			return b, true
		}
	}
	return 0, false
}

// leads reports whether the sources of an item, or theirs in turn, lead to another, other than through those that are seen already.
func (s sources) leads(from, to int, seen []bool) bool {
	for _, b := range s[from] {
		if b == to {
			return true
		}
		if !seen[b] {
			seen[b] = true
			if s.leads(b, to, seen) {
				return true
			}
		}
	}
	return false
}

package first

import (
	"slices"

	"pendule/api"
	"pendule/scope"
)

// openSet holds the names of variables that are open.
type openSet map[string]struct{}

// openIn returns the open variables of a node: from none on, only what the rules demand is added, so that the set is the smallest one.
func openIn(l []api.Item) openSet {
	s := openSet{}
	for s.grow(l) {
	}
	return s
}

// grow adds each variable whose expression is open by now, and reports whether there was one to add.
func (s openSet) grow(l []api.Item) bool {
	before := len(s)
	for _, i := range l {
		if len(i.Names) == 1 && s.opens(i.E) {
			s[i.Names[0]] = struct{}{}
		}
	}
	return len(s) > before
}

func (s openSet) has(name string) bool {
	_, ok := s[name]
	return ok
}

// opens reports whether e is open.
func (s openSet) opens(e api.Expr) bool {
	switch e.Op {
	case api.Pre:
		return true
	case api.Var:
		return s.has(e.Name)
	case api.Un, api.Bin, api.If, api.When:
		return slices.ContainsFunc(e.Kids, s.opens)
	case api.Fby, api.Arrow:
		return s.opens(e.Kids[0])
	}
	return false
}

// flags tells of each variable of n whether it is open.
func (s openSet) flags(n api.Node) []bool {
	var l []bool
	for _, v := range scope.Vars(n) {
		l = append(l, s.has(v))
	}
	return l
}

package scope

import (
	"maps"
	"slices"

	"pendule/api"
)

// nodeScope is what a node defines, beside what the program around it does.
type nodeScope struct {
	*programScope
	node api.Node
	funs set
	vars map[string]int // the item that defines each variable; noItem for the Ins
}

// addHead records the parameters of the node, and reports whether the names in its head are right.
func (s *nodeScope) addHead() bool {
	n := s.node
	taken := func(fun string) bool { return fun == n.Name || known(s.nodes, fun) }
	return !known(s.nodes, n.Name) &&
		distinct(n.Funs, n.Ins) && distinct(n.Outs) &&
		!slices.ContainsFunc(n.Funs, taken) &&
		record(s.funs, struct{}{}, n.Funs...) && record(s.vars, noItem, n.Ins...)
}

// distinct reports whether no name occurs twice in the lists, taken together.
func distinct(lists ...[]string) bool {
	return record(set{}, struct{}{}, slices.Concat(lists...)...)
}

// addItem records what item b defines, and reports whether it may define that.
func (s *nodeScope) addItem(b int, i api.Item) bool {
	if !record(s.vars, b, defined(i)...) {
		return false
	}
	if len(i.States) > 0 {
		return s.addStates(i.States)
	}
	return len(i.Names) == 1 || i.E.Op == api.Call || i.E.Op == api.Every
}

// addStates records the states of an automaton, and reports whether they have names of their own, define the same names, and lead to one another.
func (s *nodeScope) addStates(l []api.State) bool {
	var names []string
	for _, q := range l {
		names = append(names, q.Name)
	}
	isCon := func(name string) bool { return known(s.cons, name) }
	if slices.ContainsFunc(names, isCon) || !record(s.states, struct{}{}, names...) {
		return false
	}
	first, _ := definedOnce(l[0])
	for _, q := range l {
		own, ok := definedOnce(q)
		if !ok || !maps.Equal(own, first) || !leadsTo(q, names) {
			return false
		}
	}
	return true
}

// definedOnce returns the names that a state defines, and whether each has one equation, which defines nothing else.
func definedOnce(q api.State) (set, bool) {
	names := set{}
	for _, e := range q.Eqs {
		if len(e.Names) != 1 || !record(names, struct{}{}, e.Names...) {
			return nil, false
		}
	}
	return names, true
}

// leadsTo reports whether each transition of q goes to one of the states named.
func leadsTo(q api.State, states []string) bool {
	outside := func(w api.Way) bool { return !slices.Contains(states, w.To) }
	return !slices.ContainsFunc(q.Ways, outside)
}

// definesOuts reports whether each Out is defined by an item.
func (s *nodeScope) definesOuts() bool {
	for _, out := range s.node.Outs {
		if b, ok := s.vars[out]; !ok || b == noItem {
			return false
		}
	}
	return true
}

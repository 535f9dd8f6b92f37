package scope

import "pendule/api"

// set is a set of names.
type set = map[string]struct{}

// record keeps v under each of the names, and reports whether nothing was kept under any of them before, and none of them occurs twice.
func record[V any](m map[string]V, v V, names ...string) bool {
	for _, s := range names {
		if known(m, s) {
			return false
		}
		m[s] = v
	}
	return true
}

func known[V any](m map[string]V, name string) bool {
	_, ok := m[name]
	return ok
}

// programScope is what the enums so far define, and the nodes ahead of the one that is checked.
type programScope struct {
	enums  set
	cons   map[string]api.Enum // the enum of each constructor
	nodes  map[string]api.Node
	states set // of all automata so far
}

func newProgramScope() *programScope {
	s := &programScope{enums: set{}, cons: map[string]api.Enum{}, nodes: map[string]api.Node{}, states: set{}}
	record(s.cons, api.Enum{Cons: booleans()}, booleans()...)
	return s
}

// addEnum records what e defines, and reports whether nothing of it is defined twice.
func (s *programScope) addEnum(e api.Enum) bool {
	return record(s.enums, struct{}{}, e.Name) && record(s.cons, e, e.Cons...)
}

// noItem is given in the place of an item's index where what is wrong belongs to no item.
const noItem = -1

// addNode records n, and reports whether it has no fault; if it has one, the index of the item that has it.
func (s *programScope) addNode(n api.Node) (int, bool) {
	l := &nodeScope{programScope: s, node: n, funs: set{}, vars: map[string]int{}}
	if !l.addHead() {
		return noItem, false
	}
	for b, i := range n.Items {
		if !l.addItem(b, i) {
			return b, false
		}
	}
	if !l.definesOuts() {
		return noItem, false
	}
	for b, i := range n.Items {
		if !l.uses(i) {
			return b, false
		}
	}
	// Not any sooner: a node may call earlier nodes only, not itself.
	record(s.nodes, n, n.Name)
	return 0, true
}

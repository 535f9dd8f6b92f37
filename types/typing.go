package types

import (
	"slices"

	"pendule/api"
	"pendule/knot"
	"pendule/scope"
)

// typing is what is known of the types in one node. A type is an element of a knot: elements that are alike are one type, and a class carries the mark of the type that it has to be, or none as long as any type will do.
type typing struct {
	program api.Program
	earlier []Info // of the nodes ahead of this one
	types   *knot.Knot
	vars    map[string]int
	funs    map[string]signature
	refused bool // whether two types had to be one that cannot be
}

// signature is a signature over the elements of a knot.
type signature struct {
	funs      []signature
	ins, outs []int
}

func newTyping(p api.Program, earlier []Info) *typing {
	return &typing{program: p, earlier: earlier, types: knot.New(), vars: map[string]int{}, funs: map[string]signature{}}
}

// noItem is given in the place of an item's index where a static parameter has no type.
const noItem = -1

// addNode records the types in n, and reports whether it has types; if it has none, the index of the item at which they end.
func (t *typing) addNode(n api.Node) (int, bool) {
	for _, v := range scope.Vars(n) {
		t.vars[v] = t.types.Add()
	}
	// Ahead of all equations, as a static parameter may be passed on before its first call.
	for _, i := range n.Items {
		t.addFuns(n.Funs, i.E, len(i.Names))
	}
	// The Funs are distinct: with fewer signatures, there is one that is never called.
	if len(t.funs) < len(n.Funs) {
		return noItem, false
	}
	for b, i := range n.Items {
		if !t.addEquation(i.Eq) {
			return b, false
		}
	}
	return 0, true
}

// addFuns records a signature for each of the static parameters that e, which has so many results, is the first to call.
func (t *typing) addFuns(funs []string, e api.Expr, results int) {
	if e.Op == api.Call && slices.Contains(funs, e.Name) {
		if _, ok := t.funs[e.Name]; !ok {
			t.funs[e.Name] = signature{ins: t.anyTypes(len(e.Kids)), outs: t.anyTypes(results)}
		}
	}
	for i, k := range e.Kids {
		n := 1
		if e.Op == api.Every && i == 0 {
			n = results
		}
		t.addFuns(funs, k, n)
	}
}

// addEquation records the types in q, and reports whether it can have them beside all that was recorded before.
func (t *typing) addEquation(q api.Eq) bool {
	for i, r := range t.results(q.E, len(q.Names)) {
		t.same(t.vars[q.Names[i]], r)
	}
	return !t.refused
}

// anyTypes returns n new elements, of which nothing is known.
func (t *typing) anyTypes(n int) []int {
	var l []int
	for range n {
		l = append(l, t.types.Add())
	}
	return l
}

// known returns an element that is the type m.
func (t *typing) known(m api.Type) int {
	a := t.types.Add()
	t.is(a, m)
	return a
}

// is demands that a is the type m, which is no type variable.
func (t *typing) is(a int, m api.Type) {
	if !t.types.Mark(a, int(m)) {
		t.refused = true
	}
}

// same demands that all elements of l, which has one at least, are one type, and returns it.
func (t *typing) same(l ...int) int {
	for _, a := range l[1:] {
		if !t.types.Tie(l[0], a) {
			t.refused = true
		}
	}
	return l[0]
}

package clocks

import (
	"slices"

	"pendule/api"
	"pendule/scope"
)

// timing is what is known of the clocks in one node.
type timing struct {
	vars  map[string]clock
	roots []clock // what each root stands for: itself, as long as it is open
}

func newTiming() *timing {
	return &timing{vars: map[string]clock{}, roots: []clock{{root: base}}}
}

// addNode records the clocks in n, and reports whether it has clocks; if it has none, the index of the item at which they end.
func (t *timing) addNode(n api.Node) (int, bool) {
	for _, v := range scope.Vars(n) {
		t.vars[v] = t.open()
	}
	for _, v := range slices.Concat(n.Ins, n.Outs) {
		t.vars[v] = clock{root: base}
	}
	for b, i := range n.Items {
		if !t.addEquation(i.Eq) {
			return b, false
		}
	}
	return 0, true
}

// addEquation records the clocks in q, and reports whether it can have them beside all that was recorded before.
func (t *timing) addEquation(q api.Eq) bool {
	c := t.vars[q.Names[0]]
	for _, v := range q.Names[1:] {
		if !t.same(t.vars[v], c) {
			return false
		}
	}
	return t.fits(q.E, c)
}

// clocksOf returns the variables of n, each with its clock, where an open root is the base clock.
func (t *timing) clocksOf(n api.Node) []api.Named {
	var l []api.Named
	for _, v := range scope.Vars(n) {
		l = append(l, api.Named{Name: v, Clock: slices.Clone(t.whole(t.vars[v]).path)})
	}
	return l
}

// fits demands that e has the clock c, and reports whether it can.
func (t *timing) fits(e api.Expr, c clock) bool {
	switch e.Op {
	case api.Int, api.Bool, api.Con:
		return true
	case api.Var:
		v, ok := t.vars[e.Name]
		return ok && t.same(v, c)
	case api.Un, api.Bin, api.If, api.Fby, api.Pre, api.Arrow, api.Call, api.Every:
		return t.allFit(e.Kids, c)
	case api.When:
		return t.whenFits(e, c)
	case api.Merge:
		return t.mergeFits(e, c)
	}
	return false
}

func (t *timing) allFit(l []api.Expr, c clock) bool {
	return !slices.ContainsFunc(l, func(e api.Expr) bool { return !t.fits(e, c) })
}

func (t *timing) whenFits(e api.Expr, c clock) bool {
	by, ok := t.vars[e.Name]
	if !ok || len(e.Kids) == 0 || len(e.Cons) == 0 {
		return false
	}
	return t.same(by.on(e.Name, e.Cons[0]), c) && t.fits(e.Kids[0], by)
}

func (t *timing) mergeFits(e api.Expr, c clock) bool {
	by, ok := t.vars[e.Name]
	if !ok || len(e.Cons) < len(e.Kids) || !t.same(by, c) {
		return false
	}
	for i, k := range e.Kids {
		if !t.fits(k, by.on(e.Name, e.Cons[i])) {
			return false
		}
	}
	return true
}

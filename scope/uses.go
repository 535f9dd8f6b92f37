package scope

import (
	"slices"

	"pendule/api"
)

// uses reports whether every expression of an item uses names correctly.
func (s *nodeScope) uses(i api.Item) bool {
	if len(i.States) == 0 {
		return s.expr(i.E, place{results: len(i.Names)})
	}
	at := place{results: 1, unsampled: true}
	for _, q := range i.States {
		for _, e := range q.Eqs {
			if !s.expr(e.E, at) {
				return false
			}
		}
		for _, w := range q.Ways {
			if !s.expr(w.If, at) {
				return false
			}
		}
	}
	return true
}

// place is where an expression stands.
type place struct {
	results   int  // how many a call has there
	unsampled bool // whether no When, Merge or Match may stand there
}

// kid returns the place of kid i of e, which stands at p.
func (p place) kid(e api.Expr, i int) place {
	k := place{results: 1, unsampled: p.unsampled || e.Op == api.Match}
	if e.Op == api.Every && i == 0 {
		k.results = p.results
	}
	return k
}

// expr reports whether e, which stands at p, uses names correctly.
func (s *nodeScope) expr(e api.Expr, p place) bool {
	if !s.names(e, p) {
		return false
	}
	for i, k := range e.Kids {
		if !s.expr(k, p.kid(e, i)) {
			return false
		}
	}
	return true
}

// names reports whether e is right at p, but for what is inside its kids.
func (s *nodeScope) names(e api.Expr, p place) bool {
	switch e.Op {
	case api.Var:
		return known(s.vars, e.Name)
	case api.Con:
		return known(s.cons, e.Name)
	case api.When:
		return !p.unsampled && known(s.vars, e.Name) && known(s.cons, e.Cons[0])
	case api.Merge, api.Match:
		return !p.unsampled && known(s.vars, e.Name) && s.complete(e.Cons)
	case api.Call:
		return s.call(e, p.results)
	}
	return true
}

// complete reports whether l is all constructors of one type, in its order.
func (s *nodeScope) complete(l []string) bool {
	e, ok := s.cons[l[0]]
	return ok && slices.Equal(l, e.Cons)
}

// call reports whether the callee of e takes what e gives it, and has so many results.
func (s *nodeScope) call(e api.Expr, results int) bool {
	if known(s.funs, e.Name) {
		return len(e.Cons) == 0
	}
	n, ok := s.nodes[e.Name]
	wrong := func(name string) bool { return !s.passable(name) }
	return ok && len(n.Ins) == len(e.Kids) && len(n.Funs) == len(e.Cons) && len(n.Outs) == results &&
		!slices.ContainsFunc(e.Cons, wrong)
}

// passable reports whether name may be a static argument.
func (s *nodeScope) passable(name string) bool {
	n, ok := s.nodes[name]
	return known(s.funs, name) || ok && len(n.Funs) == 0
}

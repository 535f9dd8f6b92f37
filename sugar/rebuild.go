package sugar

import (
	"slices"

	"pendule/api"
)

// rebuilt returns a copy of e in which replace has taken the place of what it replaces. It is asked about an expression ahead of the kids, and not about what is inside of one that it replaces.
func rebuilt(e api.Expr, replace func(e api.Expr) (api.Expr, bool)) api.Expr {
	if by, ok := replace(e); ok {
		return by
	}
	e.Cons = slices.Clone(e.Cons)
	e.Kids = slices.Clone(e.Kids)
	for i, k := range e.Kids {
		e.Kids[i] = rebuilt(k, replace)
	}
	return e
}

// copied returns e in memory of its own.
func copied(e api.Expr) api.Expr {
	return rebuilt(e, func(api.Expr) (api.Expr, bool) { return api.Expr{}, false })
}

// withoutMatches returns e with its matches translated. There is no match inside of another one, so the arms need no translation of their own.
func withoutMatches(e api.Expr) api.Expr {
	return rebuilt(e, func(m api.Expr) (api.Expr, bool) {
		if m.Op != api.Match {
			return api.Expr{}, false
		}
		return merge(m.Name, m.Cons, m.Kids), true
	})
}

// merge returns the merge by x of the arms, each sampled by x and its constructor.
func merge(x string, cons []string, arms []api.Expr) api.Expr {
	m := api.Expr{Op: api.Merge, Name: x, Cons: slices.Clone(cons)}
	for i, a := range arms {
		m.Kids = append(m.Kids, Sample(a, x, cons[i]))
	}
	return m
}

package normal

import (
	"slices"

	"pendule/api"
)

// pure returns e purified at the clock c, and adds the equations that this takes.
func (m *maker) pure(e api.Expr, c api.Clock) api.Expr {
	switch e.Op {
	case api.Fby:
		return m.pureFby(e, c)
	case api.Pre:
		delayed := m.addExp(m.pure(e.Kids[0], c), c)
		return m.addMem(delayed, c)
	case api.Arrow:
		first, next := m.pure(e.Kids[0], c), m.pure(e.Kids[1], c)
		return choice(m.addFlag(c), first, next)
	case api.When:
		return m.pureKids(e, m.clocks[e.Name])
	case api.Merge:
		return m.addMerge(e, c)
	case api.Call:
		return m.addCall(e, c)
	case api.Every:
		return m.addEvery(e, c)
	}
	return m.pureKids(e, c)
}

// pureFby returns a choice between the first kid and the memory of the second one.
func (m *maker) pureFby(e api.Expr, c api.Clock) api.Expr {
	first, next := m.pure(e.Kids[0], c), m.pure(e.Kids[1], c)
	delayed := m.addExp(next, c)
	flag := m.addFlag(c)
	return choice(flag, first, m.addMem(delayed, c))
}

// pureKids returns e with its kids purified at the clock c.
func (m *maker) pureKids(e api.Expr, c api.Clock) api.Expr {
	made := bare(e)
	for _, k := range e.Kids {
		made.Kids = append(made.Kids, m.pure(k, c))
	}
	return made
}

// bare returns e without its kids.
func bare(e api.Expr) api.Expr {
	return api.Expr{Op: e.Op, Name: e.Name, N: e.N, Cons: slices.Clone(e.Cons)}
}

func choice(kids ...api.Expr) api.Expr {
	return api.Expr{Op: api.If, Kids: kids}
}

// on returns c with a sample appended. The clock c is not appended to in place, as the arms of a Merge share it.
func on(c api.Clock, x, con string) api.Clock {
	return slices.Concat(c, api.Clock{{Var: x, Con: con}})
}

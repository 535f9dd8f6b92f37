package tree

import (
	"math"
	"strings"

	"pendule/api"
	"pendule/scan"
)

// What the table of limits in package api does not name.
const (
	maxMadeEnums = 32
	maxStates    = 8
	maxWays      = 4
)

// rules are the parts of well-formedness that generated names change: which strings are names and constructors, and how many enums and items there may be.
type rules struct {
	name, con    func(s string) bool
	enums, items int
}

func rulesFor(made bool) rules {
	if !made {
		return rules{name: scan.IsName, con: scan.IsCon, enums: api.MaxTypes, items: api.MaxItems}
	}
	return rules{
		name:  func(s string) bool { return scan.IsName(ungenerated(s)) },
		con:   func(s string) bool { return scan.IsCon(ungenerated(s)) },
		enums: maxMadeEnums,
		items: math.MaxInt,
	}
}

// ungenerated returns s without the mark of a generated name. There is one mark at most: behind it, another one makes no name.
func ungenerated(s string) string {
	return strings.TrimPrefix(s, "_")
}

func (r rules) program(p api.Program) bool {
	return all(p.Enums, 0, r.enums, r.enum) && all(p.Nodes, 1, api.MaxNodes, r.node)
}

func (r rules) enum(e api.Enum) bool {
	return r.name(e.Name) && all(e.Cons, 1, api.MaxCons, r.con)
}

func (r rules) node(n api.Node) bool {
	return r.name(n.Name) &&
		all(n.Funs, 0, api.MaxArgs, r.name) &&
		all(n.Ins, 1, api.MaxArgs, r.name) &&
		all(n.Outs, 1, api.MaxArgs, r.name) &&
		all(n.Items, 0, r.items, r.item)
}

func (r rules) item(i api.Item) bool {
	if len(i.States) == 0 {
		return r.equation(i.Eq)
	}
	return len(i.Names) == 0 && SameExpr(i.E, api.Expr{}) && all(i.States, 1, maxStates, r.state)
}

func (r rules) equation(q api.Eq) bool {
	return all(q.Names, 1, api.MaxArgs, r.name) && r.expr(q.E)
}

func (r rules) state(s api.State) bool {
	return r.con(s.Name) && all(s.Eqs, 0, api.MaxItems, r.equation) && all(s.Ways, 0, maxWays, r.way)
}

func (r rules) way(w api.Way) bool {
	return r.con(w.To) && r.expr(w.If)
}

func (r rules) expr(e api.Expr) bool {
	s, ok := r.row(e.Op)
	return ok && s.fits(e) && all(e.Kids, 0, math.MaxInt, r.expr)
}

// all reports whether l has at least least and at most most elements, each of which is right.
func all[T any](l []T, least, most int, right func(T) bool) bool {
	if len(l) < least || len(l) > most {
		return false
	}
	for _, x := range l {
		if !right(x) {
			return false
		}
	}
	return true
}

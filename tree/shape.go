package tree

import (
	"math"
	"slices"

	"pendule/api"
)

// field decides whether one field of an expression may have the value that it has there. It is given the whole expression because the count of the kids may depend on the other fields.
type field func(e api.Expr) bool

// shape decides on each field of an expression, except for its Op and for what is inside its kids.
type shape struct {
	name, n, cons, kids field
}

func (s shape) fits(e api.Expr) bool {
	return s.name(e) && s.n(e) && s.cons(e) && s.kids(e)
}

// blank returns the shape whose fields are all zero: a row of the table changes only the fields that it names.
func blank() shape {
	return shape{
		name: nameIs(func(s string) bool { return s == "" }),
		n:    within(0, 0),
		cons: func(e api.Expr) bool { return len(e.Cons) == 0 },
		kids: kids(0, 0),
	}
}

// row returns the shape of the expressions with this Op, and false if there are none.
func (r rules) row(op int) (shape, bool) {
	s := blank()
	switch op {
	case api.Int:
		s.n = within(0, math.MaxInt64)
	case api.Bool:
		s.n = within(0, 1)
	case api.Con:
		s.name = nameIs(r.con)
	case api.Var:
		s.name = nameIs(r.name)
	case api.Un:
		s.name, s.kids = nameIs(oneOf("not", "-")), kids(1, 1)
	case api.Bin:
		s.name, s.kids = nameIs(oneOf("+", "-", "*", "/", "%", "<", "<=", "=", "<>", "and", "or")), kids(2, 2)
	case api.If:
		s.kids = kids(3, 3)
	case api.Fby, api.Arrow:
		s.kids = kids(2, 2)
	case api.Pre:
		s.kids = kids(1, 1)
	case api.When:
		s.name, s.cons, s.kids = nameIs(r.name), cons(1, 1, r.con), kids(1, 1)
	case api.Merge, api.Match:
		s.name, s.cons = nameIs(r.name), cons(1, api.MaxCons, r.con)
		s.kids = func(e api.Expr) bool { return len(e.Kids) == len(e.Cons) }
	case api.Call:
		s.name, s.cons, s.kids = nameIs(r.name), cons(0, api.MaxArgs, r.name), kids(1, api.MaxArgs)
	case api.Every:
		s.kids = func(e api.Expr) bool { return len(e.Kids) == 2 && e.Kids[0].Op == api.Call }
	default:
		return shape{}, false
	}
	return s, true
}

func nameIs(right func(s string) bool) field {
	return func(e api.Expr) bool { return right(e.Name) }
}

func within(least, most int64) field {
	return func(e api.Expr) bool { return least <= e.N && e.N <= most }
}

func cons(least, most int, right func(s string) bool) field {
	return func(e api.Expr) bool { return all(e.Cons, least, most, right) }
}

func kids(least, most int) field {
	return func(e api.Expr) bool { return least <= len(e.Kids) && len(e.Kids) <= most }
}

func oneOf(names ...string) func(s string) bool {
	return func(s string) bool { return slices.Contains(names, s) }
}

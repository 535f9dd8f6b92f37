package tree

import (
	"slices"

	"pendule/api"
)

// Same reports whether a and b are equal, field by field; nil slices and empty slices are equal.
func Same(a, b api.Program) bool {
	return slices.EqualFunc(a.Enums, b.Enums, sameEnum) && slices.EqualFunc(a.Nodes, b.Nodes, sameNode)
}

// SameExpr reports whether a and b are equal, field by field; nil slices and empty slices are equal.
func SameExpr(a, b api.Expr) bool {
	return a.Op == b.Op && a.Name == b.Name && a.N == b.N &&
		slices.Equal(a.Cons, b.Cons) && slices.EqualFunc(a.Kids, b.Kids, SameExpr)
}

func sameEnum(a, b api.Enum) bool {
	return a.Name == b.Name && slices.Equal(a.Cons, b.Cons)
}

func sameNode(a, b api.Node) bool {
	return a.Name == b.Name &&
		slices.Equal(a.Funs, b.Funs) && slices.Equal(a.Ins, b.Ins) && slices.Equal(a.Outs, b.Outs) &&
		slices.EqualFunc(a.Items, b.Items, sameItem)
}

func sameItem(a, b api.Item) bool {
	return sameEq(a.Eq, b.Eq) && slices.EqualFunc(a.States, b.States, sameState)
}

func sameState(a, b api.State) bool {
	return a.Name == b.Name && slices.EqualFunc(a.Eqs, b.Eqs, sameEq) && slices.EqualFunc(a.Ways, b.Ways, sameWay)
}

func sameEq(a, b api.Eq) bool {
	return slices.Equal(a.Names, b.Names) && SameExpr(a.E, b.E)
}

func sameWay(a, b api.Way) bool {
	return a.To == b.To && SameExpr(a.If, b.If)
}

package types

import (
	"pendule/api"
	"pendule/scope"
	"pendule/word"
)

// anyType is the operand type of an operator whose operands may have any type that both have.
const anyType api.Type = 0

// results returns the types of the results of e, of which there are n.
func (t *typing) results(e api.Expr, n int) []int {
	switch e.Op {
	case api.Call:
		return t.call(e, n)
	case api.Every:
		t.is(t.expr(e.Kids[1]), api.TyBool)
		return t.results(e.Kids[0], n)
	}
	return []int{t.value(e, t.exprs(e.Kids))}
}

// expr returns the type of e, which has one result.
func (t *typing) expr(e api.Expr) int { return t.results(e, 1)[0] }

func (t *typing) exprs(l []api.Expr) []int {
	var types []int
	for _, e := range l {
		types = append(types, t.expr(e))
	}
	return types
}

// value returns the type of e, which is no call, and whose kids have these types.
func (t *typing) value(e api.Expr, kids []int) int {
	switch e.Op {
	case api.Int:
		return t.known(api.TyInt)
	case api.Bool:
		return t.known(api.TyBool)
	case api.Con:
		return t.known(t.typeOfCon(e.Name))
	case api.Var:
		return t.vars[e.Name]
	case api.Un, api.Bin:
		return t.operation(e.Name, kids)
	case api.If:
		t.is(kids[0], api.TyBool)
		return t.same(kids[1:]...)
	case api.When, api.Merge:
		t.is(t.vars[e.Name], t.typeOfCon(e.Cons[0]))
	}
	return t.same(kids...)
}

func (t *typing) operation(name string, operands []int) int {
	operand, result, _ := word.Takes(name, len(operands))
	if operand == anyType {
		t.same(operands...)
		return t.known(result)
	}
	for _, a := range operands {
		t.is(a, operand)
	}
	return t.known(result)
}

// typeOfCon returns the type that has the constructor name.
func (t *typing) typeOfCon(name string) api.Type {
	enum, _, _ := scope.Con(t.program, name)
	if enum < 0 {
		return api.TyBool
	}
	return api.TyEnum + api.Type(enum)
}

package types

import (
	"pendule/api"
	"pendule/knot"
	"pendule/scope"
)

// numbering numbers the type variables of a node in the order in which it is asked for them.
type numbering struct {
	types   *knot.Knot
	numbers map[int]api.Type // by the least element of the class
}

// info returns what is known of the types of n, whose variable parts are the type variables.
func (t *typing) info(n api.Node) Info {
	m := numbering{types: t.types, numbers: map[int]api.Type{}}
	var i Info
	for _, f := range n.Funs {
		s := t.funs[f]
		ins := m.all(s.ins)
		i.Sig.Funs = append(i.Sig.Funs, api.Sig{Ins: ins, Outs: m.all(s.outs)})
	}
	i.Sig.Ins = m.all(t.elementsOf(n.Ins))
	i.Sig.Outs = m.all(t.elementsOf(n.Outs))
	for _, v := range scope.Vars(n) {
		i.Vars = append(i.Vars, api.Named{Name: v, Type: m.one(t.vars[v])})
	}
	return i
}

// elementsOf returns the elements that are the types of the variables.
func (t *typing) elementsOf(vars []string) []int {
	var l []int
	for _, v := range vars {
		l = append(l, t.vars[v])
	}
	return l
}

func (m numbering) all(l []int) []api.Type {
	var types []api.Type
	for _, a := range l {
		types = append(types, m.one(a))
	}
	return types
}

func (m numbering) one(a int) api.Type {
	if mark := m.types.Of(a); mark > 0 {
		return api.Type(mark)
	}
	least := m.types.Least(a)
	if _, ok := m.numbers[least]; !ok {
		m.numbers[least] = -api.Type(len(m.numbers) + 1)
	}
	return m.numbers[least]
}

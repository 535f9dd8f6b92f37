package types

import (
	"pendule/api"
	"pendule/scope"
)

// call returns the types of the results of a call, of which there are n.
func (t *typing) call(e api.Expr, n int) []int {
	callee := t.denoted(e.Name)
	for i, name := range e.Cons {
		t.agree(callee.funs[i], t.denoted(name))
	}
	use := signature{ins: t.exprs(e.Kids), outs: t.anyTypes(n)}
	t.agree(callee, use)
	return use.outs
}

// denoted returns the signature of a static parameter, or a fresh instance of that of an earlier node.
func (t *typing) denoted(name string) signature {
	// The static parameters come first: a later node may have the name of one.
	if s, ok := t.funs[name]; ok {
		return s
	}
	k, _ := scope.Node(t.program, name)
	return t.instance(t.earlier[k].Sig, map[api.Type]int{})
}

// instance returns s over elements of the knot. The map keeps the one that stands for each type of s, so that a type variable is one type wherever it occurs.
func (t *typing) instance(s api.Sig, fresh map[api.Type]int) signature {
	var funs []signature
	for _, f := range s.Funs {
		funs = append(funs, t.instance(f, fresh))
	}
	return signature{funs: funs, ins: t.elements(s.Ins, fresh), outs: t.elements(s.Outs, fresh)}
}

func (t *typing) elements(l []api.Type, fresh map[api.Type]int) []int {
	var elements []int
	for _, m := range l {
		if _, ok := fresh[m]; !ok {
			fresh[m] = t.standIn(m)
		}
		elements = append(elements, fresh[m])
	}
	return elements
}

// standIn returns a new element for m: that type, or any one if m is a type variable.
func (t *typing) standIn(m api.Type) int {
	if m < 0 {
		return t.types.Add()
	}
	return t.known(m)
}

// agree demands that two signatures have as many Ins and Outs, and the same types.
func (t *typing) agree(r, s signature) {
	t.agreeAll(r.ins, s.ins)
	t.agreeAll(r.outs, s.outs)
}

func (t *typing) agreeAll(l, m []int) {
	if len(l) != len(m) {
		t.refused = true
		return
	}
	for i, a := range l {
		t.same(a, m[i])
	}
}

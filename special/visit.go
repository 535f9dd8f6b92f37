package special

import (
	"slices"

	"pendule/api"
	"pendule/scope"
)

// visit is the visit of one instance.
type visit struct {
	*maker
	of instance
}

// node returns the node of the instance, but for its name.
func (v visit) node() api.Node {
	n := v.source()
	made := api.Node{Ins: slices.Clone(n.Ins), Outs: slices.Clone(n.Outs)}
	for _, i := range n.Items {
		made.Items = append(made.Items, api.Item{Eq: api.Eq{Names: slices.Clone(i.Names), E: v.expr(i.E)}})
	}
	return made
}

// source returns the node that the instance is one of.
func (v visit) source() api.Node { return v.program.Nodes[v.of.node] }

// expr returns e with calls of the nodes of instances. The kids come first, as their calls are visited ahead of e.
func (v visit) expr(e api.Expr) api.Expr {
	made := api.Expr{Op: e.Op, Name: e.Name, N: e.N}
	for _, k := range e.Kids {
		made.Kids = append(made.Kids, v.expr(k))
	}
	if e.Op == api.Call {
		made.Name = nameOf(v.callee(e))
	} else {
		made.Cons = slices.Clone(e.Cons)
	}
	return made
}

// callee returns the number of the instance that a call calls.
func (v visit) callee(e api.Expr) int {
	var funs passed
	for i, name := range e.Cons {
		funs[i] = v.denoted(name, passed{})
	}
	return v.denoted(e.Name, funs)
}

// denoted returns the number of the instance that was passed for a static parameter; or of that of a node, with these instances for its Funs.
func (v visit) denoted(name string, funs passed) int {
	// The static parameters come first: a later node may have the name of one.
	if i := slices.Index(v.source().Funs, name); i >= 0 {
		return v.of.funs[i]
	}
	k, _ := scope.Node(v.program, name)
	return v.number(instance{k, funs})
}

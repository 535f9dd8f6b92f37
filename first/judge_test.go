package first_test

import (
	"slices"

	"pendule/api"
	"pendule/scope"
)

// A set of variables is the bits of a number, by their places among the variables of the node.
type set uint64

// judge knows the places of the variables of a node.
type judge struct {
	n    api.Node
	vars []string
}

func judgeOf(n api.Node) judge { return judge{n, varsOf(n)} }

// varsOf returns the parameters of n, and then what its items define.
func varsOf(n api.Node) []string {
	l := slices.Clone(n.Ins)
	for _, i := range n.Items {
		l = append(l, i.Names...)
	}
	return l
}

func (j judge) bit(name string) set { return 1 << slices.Index(j.vars, name) }

// below returns e and all expressions in it.
func below(e api.Expr) []api.Expr {
	l := []api.Expr{e}
	for _, k := range e.Kids {
		l = append(l, below(k)...)
	}
	return l
}

// undefined tells whether e is open if exactly the variables of s are.
func (j judge) undefined(s set, e api.Expr) bool {
	var l []api.Expr
	switch e.Op {
	case api.Var:
		return s&j.bit(e.Name) != 0
	case api.Pre:
		return true
	case api.Fby, api.Arrow:
		l = e.Kids[:1]
	case api.Un, api.Bin, api.If, api.When:
		l = e.Kids
	}
	for _, k := range l {
		if j.undefined(s, k) {
			return true
		}
	}
	return false
}

// satisfied tells whether the rules hold of the variables if exactly those of s are open.
func (j judge) satisfied(s set) bool {
	var free set // of the variables that the rules leave open to be open
	for _, i := range j.n.Items {
		if len(i.Names) == 1 {
			v := j.bit(i.Names[0])
			free |= v
			if j.undefined(s, i.E) != (s&v != 0) {
				return false
			}
		}
	}
	return s&^free == 0
}

// smallest tries all sets of variables, and returns the one that is a part of all that satisfy the rules, if it does so too.
func (j judge) smallest() (set, bool) {
	all := ^set(0)
	for s := range set(1) << len(j.vars) {
		if j.satisfied(s) {
			all &= s
		}
	}
	return all, j.satisfied(all)
}

// reached returns the variables from which a pre is reached: another way to the same set, which is no longer for more variables.
func (j judge) reached() set {
	var s set
	for _, v := range j.vars {
		if j.reaches(v, 0) {
			s |= j.bit(v)
		}
	}
	return s
}

// reaches tells whether a pre is reached from the variable, where those of seen have been passed on the way.
func (j judge) reaches(name string, seen set) bool {
	if seen&j.bit(name) != 0 {
		return false
	}
	for _, i := range j.n.Items {
		if !slices.Equal(i.Names, []string{name}) {
			continue
		}
		for _, e := range ends(i.E) {
			if e.Op == api.Pre || e.Op == api.Var && j.reaches(e.Name, seen|j.bit(name)) {
				return true
			}
		}
	}
	return false
}

// ends returns the expressions in e that its first value comes from.
func ends(e api.Expr) []api.Expr {
	switch e.Op {
	case api.Fby, api.Arrow:
		return ends(e.Kids[0])
	case api.Un, api.Bin, api.If, api.When:
		var l []api.Expr
		for _, k := range e.Kids {
			l = append(l, ends(k)...)
		}
		return l
	}
	return []api.Expr{e}
}

// demanded returns the expressions that must be firm because they stand in e, as the chapter lists them.
func demanded(e api.Expr) []api.Expr {
	variable := api.Expr{Op: api.Var, Name: e.Name}
	switch e.Op {
	case api.Pre:
		return e.Kids[:1]
	case api.Fby, api.Every:
		return e.Kids[1:2]
	case api.Merge:
		return append([]api.Expr{variable}, e.Kids...)
	case api.When:
		return []api.Expr{variable}
	case api.Call:
		return e.Kids
	}
	return nil
}

// fault returns what is wrong in the node k if exactly the variables of s are open.
func (j judge) fault(s set, k int) api.Fault {
	for b, i := range j.n.Items {
		for _, e := range below(i.E) {
			for _, d := range demanded(e) {
				if j.undefined(s, d) {
					return initFault(k, b)
				}
			}
		}
	}
	for _, v := range j.n.Outs {
		if s&j.bit(v) != 0 {
			return initFault(k, -1)
		}
	}
	return api.Fault{}
}

// isPlain tells whether there is no automaton and no match in p.
func isPlain(p api.Program) bool {
	for _, n := range p.Nodes {
		for _, i := range n.Items {
			if len(i.States) > 0 || slices.ContainsFunc(below(i.E), func(e api.Expr) bool { return e.Op == api.Match }) {
				return false
			}
		}
	}
	return true
}

// judged returns the fault of p, and the open variables of each node if it has none, where open finds those of a node.
func judged(p api.Program, open func(judge) set) ([]set, api.Fault) {
	if f := scope.Check(p, true); f.Err != api.OK {
		return nil, f
	}
	if !isPlain(p) {
		return nil, api.Fault{Err: api.ErrArg}
	}
	var l []set
	for k, n := range p.Nodes {
		j := judgeOf(n)
		s := open(j)
		if f := j.fault(s, k); f.Err != api.OK {
			return nil, f
		}
		l = append(l, s)
	}
	return l, api.Fault{}
}

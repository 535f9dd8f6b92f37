package types_test

import (
	"slices"

	"pendule/api"
	"pendule/scope"
)

// ground is a signature without type variables.
type ground struct {
	funs      []ground
	ins, outs []api.Type
}

func equal(a, b ground) bool {
	return slices.Equal(a.ins, b.ins) && slices.Equal(a.outs, b.outs) && slices.EqualFunc(a.funs, b.funs, equal)
}

// judge reads the rules of the chapter the other way round: it tries all typings of a node, by the types that the program has, and keeps those in which every equation is right. As types have no parts, these tell all that there is to tell of the others.
type judge struct {
	p        api.Program
	universe []api.Type
	sigs     [][]ground // of each node, those that its typings give it
	// the typing at hand
	vars map[string]api.Type
	funs map[string]ground
}

func newJudge(p api.Program) *judge {
	j := &judge{p: p, universe: []api.Type{api.TyInt, api.TyBool}}
	for i := range p.Enums {
		j.universe = append(j.universe, api.TyEnum+api.Type(i))
	}
	return j
}

// judged returns the fault of p by the chapter, and the typings of each node; and false if there are too many to try.
func judged(p api.Program) (api.Fault, [][][]api.Type, bool) {
	if f := scope.Check(p, true); f != (api.Fault{}) {
		return f, nil, true
	}
	for _, n := range p.Nodes {
		for _, i := range n.Items {
			if len(i.States) > 0 || slices.ContainsFunc(below(i.E, 1), func(s spot) bool { return s.e.Op == api.Match }) {
				return api.Fault{Err: api.ErrArg}, nil, true
			}
		}
	}
	j := newJudge(p)
	var all [][][]api.Type
	for k, n := range p.Nodes {
		typings, b, ok := j.node(n)
		if !ok {
			return api.Fault{}, nil, false
		}
		if b < len(n.Items) {
			return typeFault(k, b), nil, true
		}
		all = append(all, typings)
	}
	return api.Fault{}, all, true
}

// spot is an expression, at any depth, with its number of results.
type spot struct {
	e       api.Expr
	results int
}

// below returns e and all expressions in it, each ahead of those in its kids.
func below(e api.Expr, results int) []spot {
	l := []spot{{e, results}}
	for i, k := range e.Kids {
		n := 1
		if i == 0 && e.Op == api.Every {
			n = results
		}
		l = append(l, below(k, n)...)
	}
	return l
}

// firstCall returns the first call of a static parameter, and whether there is one.
func firstCall(n api.Node, fun string) (spot, bool) {
	for _, i := range n.Items {
		for _, s := range below(i.E, len(i.Names)) {
			if s.e.Op == api.Call && s.e.Name == fun {
				return s, true
			}
		}
	}
	return spot{}, false
}

// most is the greatest number of typings that are tried for a node.
const most = 4096

// node returns the typings of n, each the types of its static parameters and of its variables in order; and the index of the first item that no typing reaches the end of, or -1. It returns false if there are too many to try.
func (j *judge) node(n api.Node) ([][]api.Type, int, bool) {
	slots := 0
	for _, f := range n.Funs {
		s, ok := firstCall(n, f)
		if !ok {
			return nil, -1, true
		}
		slots += len(s.e.Kids) + s.results
	}
	typing := slices.Repeat([]int{0}, slots+len(varsOf(n)))
	if total := power(len(j.universe), len(typing)); total > most {
		return nil, 0, false
	}
	var typings [][]api.Type
	var sigs []ground
	reached := 0
	assume := j.assumption(n)
	for more := true; more; more = next(typing, len(j.universe)) {
		assume(typing)
		b := slices.IndexFunc(n.Items, func(i api.Item) bool { return !j.equation(i.Eq) })
		if b < 0 {
			var l []api.Type
			for _, u := range typing {
				l = append(l, j.universe[u])
			}
			typings = append(typings, l)
			sig := j.signature(n)
			if !slices.ContainsFunc(sigs, func(s ground) bool { return equal(s, sig) }) {
				sigs = append(sigs, sig)
			}
			b = len(n.Items)
		}
		reached = max(reached, b)
	}
	j.sigs = append(j.sigs, sigs)
	return typings, reached, true
}

func varsOf(n api.Node) []string {
	l := slices.Clone(n.Ins)
	for _, i := range n.Items {
		l = append(l, i.Names...)
	}
	return l
}

func power(base, n int) int {
	p := 1
	for range n {
		p = min(p*base, most+1)
	}
	return p
}

// next counts l up by one, as a number of digits below base, and reports whether it did not come back to zero.
func next(l []int, base int) bool {
	for i := range l {
		if l[i]++; l[i] < base {
			return true
		}
		l[i] = 0
	}
	return false
}

// assumption returns what takes a typing of n, by indices of types, for the one at hand.
func (j *judge) assumption(n api.Node) func(typing []int) {
	j.funs, j.vars = map[string]ground{}, map[string]api.Type{}
	for _, f := range n.Funs {
		s, _ := firstCall(n, f)
		j.funs[f] = ground{ins: make([]api.Type, len(s.e.Kids)), outs: make([]api.Type, s.results)}
	}
	vars := varsOf(n)
	return func(typing []int) {
		at := 0
		read := func() api.Type {
			at++
			return j.universe[typing[at-1]]
		}
		for _, f := range n.Funs {
			for i := range j.funs[f].ins {
				j.funs[f].ins[i] = read()
			}
			for i := range j.funs[f].outs {
				j.funs[f].outs[i] = read()
			}
		}
		for _, v := range vars {
			j.vars[v] = read()
		}
	}
}

// signature returns the signature that the typing at hand gives to n.
func (j *judge) signature(n api.Node) ground {
	var sig ground
	for _, f := range n.Funs {
		sig.funs = append(sig.funs, ground{ins: slices.Clone(j.funs[f].ins), outs: slices.Clone(j.funs[f].outs)})
	}
	for _, v := range n.Ins {
		sig.ins = append(sig.ins, j.vars[v])
	}
	for _, v := range n.Outs {
		sig.outs = append(sig.outs, j.vars[v])
	}
	return sig
}

// equation reports whether q is right in the typing at hand.
func (j *judge) equation(q api.Eq) bool {
	var want []api.Type
	for _, v := range q.Names {
		want = append(want, j.vars[v])
	}
	return j.can(q.E, want...)
}

func (j *judge) allCan(l []api.Expr, want api.Type) bool {
	return !slices.ContainsFunc(l, func(e api.Expr) bool { return !j.can(e, want) })
}

// can reports whether the results of e can have these types.
func (j *judge) can(e api.Expr, want ...api.Type) bool {
	switch e.Op {
	case api.Int:
		return want[0] == api.TyInt
	case api.Bool:
		return want[0] == api.TyBool
	case api.Con:
		return want[0] == j.typeOf(e.Name)
	case api.Var:
		return want[0] == j.vars[e.Name]
	case api.Un, api.Bin:
		return j.canOperate(e, want[0])
	case api.If:
		return j.can(e.Kids[0], api.TyBool) && j.allCan(e.Kids[1:], want[0])
	case api.Fby, api.Arrow, api.Pre:
		return j.allCan(e.Kids, want[0])
	case api.When, api.Merge:
		return j.vars[e.Name] == j.typeOf(e.Cons[0]) && j.allCan(e.Kids, want[0])
	case api.Call:
		return slices.ContainsFunc(j.denoted(e.Name), func(s ground) bool { return j.canCall(e, s, want) })
	case api.Every:
		return j.can(e.Kids[1], api.TyBool) && j.can(e.Kids[0], want...)
	}
	return false
}

func (j *judge) canOperate(e api.Expr, want api.Type) bool {
	switch e.Name {
	case "not", "and", "or":
		return want == api.TyBool && j.allCan(e.Kids, api.TyBool)
	case "<", "<=":
		return want == api.TyBool && j.allCan(e.Kids, api.TyInt)
	case "=", "<>":
		return want == api.TyBool && slices.ContainsFunc(j.universe, func(m api.Type) bool { return j.allCan(e.Kids, m) })
	}
	return want == api.TyInt && j.allCan(e.Kids, api.TyInt)
}

// canCall reports whether e can be a call of something with the signature s, with results of these types.
func (j *judge) canCall(e api.Expr, s ground, want []api.Type) bool {
	if !slices.Equal(s.outs, want) || len(s.ins) != len(e.Kids) || len(s.funs) != len(e.Cons) {
		return false
	}
	for i, f := range s.funs {
		if !slices.ContainsFunc(j.denoted(e.Cons[i]), func(g ground) bool { return equal(f, g) }) {
			return false
		}
	}
	for i, k := range e.Kids {
		if !j.can(k, s.ins[i]) {
			return false
		}
	}
	return true
}

// denoted returns the signatures that a static parameter or a node can have where it is named.
func (j *judge) denoted(name string) []ground {
	if s, ok := j.funs[name]; ok {
		return []ground{s}
	}
	k := slices.IndexFunc(j.p.Nodes, func(n api.Node) bool { return n.Name == name })
	return j.sigs[k]
}

func (j *judge) typeOf(con string) api.Type {
	for i, e := range j.p.Enums {
		if slices.Contains(e.Cons, con) {
			return api.TyEnum + api.Type(i)
		}
	}
	return api.TyBool
}

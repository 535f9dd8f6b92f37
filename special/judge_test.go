package special_test

import (
	"slices"
	"strconv"
	"strings"

	"pendule/api"
	"pendule/types"
)

// instance is a node with what is passed for its Funs: all of it, not a number.
type instance struct {
	node   api.Node
	passed []instance
}

// String tells an instance from all others: NODE[INSTANCE, INSTANCE].
func (i instance) String() string {
	var l []string
	for _, a := range i.passed {
		l = append(l, a.String())
	}
	return i.node.Name + list("[", l, "]")
}

// judge goes through the visits of the chapter one by one, those of what has been visited before too, and takes the instances at the ends of the first ones.
type judge struct {
	p      api.Program
	visits int
	first  []instance
}

// mostVisits is the greatest number of visits that are gone through.
const mostVisits = 20000

// denoted returns what name denotes in i, with these instances passed to it.
func (j *judge) denoted(i instance, name string, passed ...instance) instance {
	for k, f := range i.node.Funs {
		if f == name {
			return i.passed[k]
		}
	}
	for _, n := range j.p.Nodes {
		if n.Name == name {
			return instance{n, passed}
		}
	}
	panic("no node " + name)
}

// called returns the instances that the Cons of a call in i denote, and then the one that it calls.
func (j *judge) called(i instance, e api.Expr) []instance {
	var l []instance
	for _, c := range e.Cons {
		l = append(l, j.denoted(i, c))
	}
	return append(l, j.denoted(i, e.Name, l...))
}

// callsIn returns the calls in e, each behind those in its kids.
func callsIn(e api.Expr) []api.Expr {
	var l []api.Expr
	for _, k := range e.Kids {
		l = append(l, callsIn(k)...)
	}
	if e.Op == api.Call {
		l = append(l, e)
	}
	return l
}

// visit visits i, and reports whether all visits were gone through.
func (j *judge) visit(i instance) bool {
	if j.visits++; j.visits > mostVisits {
		return false
	}
	for _, item := range i.node.Items {
		for _, e := range callsIn(item.E) {
			for _, c := range j.called(i, e) {
				if !j.visit(c) {
					return false
				}
			}
		}
	}
	if j.number(i) < 0 {
		j.first = append(j.first, i)
	}
	return true
}

// needs returns how many instances there are with i and all that it needs, in whatever order; or some number that is too great.
func (j *judge) needs(i instance) int {
	seen, l := map[string]bool{i.String(): true}, []instance{i}
	for at := 0; at < len(l) && len(l) <= 2*api.MaxNodes; at++ {
		for _, item := range l[at].node.Items {
			for _, e := range callsIn(item.E) {
				for _, c := range j.called(l[at], e) {
					if !seen[c.String()] {
						seen[c.String()] = true
						l = append(l, c)
					}
				}
			}
		}
	}
	return len(l)
}

// number returns the number of i, or -1 if it has none.
func (j *judge) number(i instance) int {
	return slices.IndexFunc(j.first, func(f instance) bool { return f.String() == i.String() })
}

// judged returns what is to be made of main in p, and a word for it; or "" if there are too many visits.
func judged(p api.Program, main string) (api.Program, api.Fault, string) {
	if _, f := types.Infer(p); f != (api.Fault{}) {
		return api.Program{}, f, "error " + strconv.Itoa(int(f.Err))
	}
	k := slices.IndexFunc(p.Nodes, func(n api.Node) bool { return n.Name == main })
	switch {
	case k < 0:
		return api.Program{}, api.Fault{Err: api.ErrIndex}, "nowhere"
	case len(p.Nodes[k].Funs) > 0:
		return api.Program{}, api.Fault{Err: api.ErrIndex}, "Funs"
	}
	j := judge{p: p}
	if j.needs(instance{node: p.Nodes[k]}) > api.MaxNodes {
		return api.Program{}, api.Fault{Err: api.ErrBound}, "too many"
	}
	if !j.visit(instance{node: p.Nodes[k]}) {
		return api.Program{}, api.Fault{}, ""
	}
	made := api.Program{Enums: p.Enums}
	for k, i := range j.first {
		made.Nodes = append(made.Nodes, j.made(k, i))
	}
	return made, api.Fault{}, "made"
}

// made returns the node of the instance with the number k.
func (j *judge) made(k int, i instance) api.Node {
	n := clone(i.node)
	n.Name, n.Funs = "_i"+strconv.Itoa(k), nil
	for _, e := range exprsOf(&n) {
		if e.Op == api.Call {
			l := j.called(i, *e)
			e.Name, e.Cons = "_i"+strconv.Itoa(j.number(l[len(l)-1])), nil
		}
	}
	return n
}

// unfolding gives numbers to nodes by what they are with all that they call, and that calls in turn: how nodes are named, and what is passed to them, makes no difference.
type unfolding map[string]int

// number returns the number of an instance, and done keeps those of p.
func (u unfolding) number(p api.Program, i instance, done map[string]int) int {
	if k, ok := done[i.String()]; ok {
		return k
	}
	j, n := judge{p: p}, clone(i.node)
	n.Funs = nil
	for _, e := range exprsOf(&n) {
		if e.Op == api.Call {
			l := j.called(i, *e)
			e.Name, e.Cons = strconv.Itoa(u.number(p, l[len(l)-1], done)), nil
		}
	}
	if _, ok := u[unnamed(n)]; !ok {
		u[unnamed(n)] = len(u)
	}
	done[i.String()] = u[unnamed(n)]
	return u[unnamed(n)]
}

// unnamed writes a node but for its name.
func unnamed(n api.Node) string {
	return strings.TrimPrefix(text(api.Program{Nodes: []api.Node{n}}), "node "+n.Name)
}

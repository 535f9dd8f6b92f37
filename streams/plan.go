package streams

import (
	"pendule/api"
	"pendule/cause"
	"pendule/scope"
)

// plan is a node that is ready to be played: its variables, and the entries of its memory, have numbers.
type plan struct {
	vars          int // how many variables there are; the Ins are the first ones
	outs          []int
	equations     []equation // each behind those that it depends on
	delays, calls int        // how many entries of each sort the memory has
}

// equation gives its variables the cells of e.
type equation struct {
	vars  []int
	clock []sample
	e     *term
}

// sample is where a variable has a value.
type sample struct {
	variable int
	value    int64
}

// term is an expression.
type term struct {
	op       int
	operator string // of a Un or a Bin
	value    int64  // of an Int, a Bool or a Con
	variable int    // that a Var, a When or a Merge names
	entry    int    // of a Fby, a Pre or an Arrow among the delays; of a Call among the calls
	callee   *plan  // of a Call
	kids     []*term
}

// planner makes the plan of one node.
type planner struct {
	*plan
	program api.Program
	earlier []*plan // of the nodes ahead of it
	numbers map[string]int
	clocks  map[string]api.Clock
}

// planOf returns the plan of the node k, where vars are the variables of each node, in the order of their numbers, with their clocks.
func planOf(p api.Program, k int, vars [][]api.Named) *plan {
	var l []*plan
	for i, n := range p.Nodes[:k+1] {
		m := planner{plan: &plan{}, program: p, earlier: l, numbers: map[string]int{}, clocks: map[string]api.Clock{}}
		m.addVars(vars[i])
		m.addNode(n)
		l = append(l, m.plan)
	}
	return l[k]
}

func (m *planner) addVars(vars []api.Named) {
	m.vars = len(vars)
	for i, v := range vars {
		m.numbers[v.Name], m.clocks[v.Name] = i, v.Clock
	}
}

func (m *planner) addNode(n api.Node) {
	m.outs = m.all(n.Outs)
	order, _ := cause.Order(m.timed(n))
	for _, b := range order {
		q := n.Items[b].Eq
		m.equations = append(m.equations, equation{vars: m.all(q.Names), clock: m.samples(m.clocks[q.Names[0]]), e: m.term(q.E)})
	}
}

// timed returns n with items that also read the variables of their clocks, as these decide whether an item is present. That makes no circle: such a variable has a shorter clock than the item, so it could wait for the item only by way of a Merge by itself, and would wait for itself.
func (m *planner) timed(n api.Node) api.Node {
	var l []api.Item
	for _, i := range n.Items {
		kids := []api.Expr{i.E}
		for _, s := range m.clocks[i.Names[0]] {
			kids = append(kids, api.Expr{Op: api.Var, Name: s.Var})
		}
		l = append(l, api.Item{Eq: api.Eq{Names: i.Names, E: api.Expr{Op: api.Call, Kids: kids}}})
	}
	return api.Node{Items: l}
}

// all returns the numbers of the variables.
func (m *planner) all(names []string) []int {
	var l []int
	for _, v := range names {
		l = append(l, m.numbers[v])
	}
	return l
}

func (m *planner) samples(c api.Clock) []sample {
	var l []sample
	for _, s := range c {
		l = append(l, sample{m.numbers[s.Var], m.constructor(s.Con)})
	}
	return l
}

// constructor returns the value of a constructor.
func (m *planner) constructor(name string) int64 {
	_, i, _ := scope.Con(m.program, name)
	return int64(i)
}

func (m *planner) term(e api.Expr) *term {
	t := &term{op: e.Op}
	switch e.Op {
	case api.Int, api.Bool:
		t.value = e.N
	case api.Con:
		t.value = m.constructor(e.Name)
	case api.Var, api.When, api.Merge:
		t.variable = m.numbers[e.Name]
	case api.Un, api.Bin:
		t.operator = e.Name
	case api.Fby, api.Pre, api.Arrow:
		t.entry = m.delays
		m.delays++
	case api.Call:
		k, _ := scope.Node(m.program, e.Name)
		t.callee, t.entry = m.earlier[k], m.calls
		m.calls++
	}
	for _, k := range e.Kids {
		t.kids = append(t.kids, m.term(k))
	}
	return t
}

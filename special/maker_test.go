package special_test

import (
	"math/rand"
	"slices"
	"strconv"

	"pendule/api"
)

// maker draws programs that have types: all variables can be integers, but for the two that each node has to sample by.
type maker struct {
	*rand.Rand
	p       api.Program
	vars    []string // of the node that is drawn
	callees []callee
}

// callee is what can be called, with how many Ins and Outs, and what its Funs have.
type callee struct {
	name string
	counts
	funs []counts
}

type counts struct{ ins, outs int }

func newMaker(seed int64) *maker { return &maker{Rand: rand.New(rand.NewSource(seed))} }

func one[T any](m *maker, l []T) T { return l[m.Intn(len(l))] }

// program draws a program with so many nodes. Of those between the first third and the last one, so many in a hundred have Funs.
func (m *maker) program(nodes, withFuns int) api.Program {
	m.p = api.Program{Enums: []api.Enum{{Name: "t", Cons: []string{"A", "B"}}, {Name: "one", Cons: []string{"One"}}}[:1+m.Intn(2)]}
	m.callees = nil
	for k := range nodes {
		var funs []callee
		if nodes/3 <= k && 0 < k && k < nodes-1 && m.Intn(100) < withFuns {
			funs = m.funs(k, nodes)
		}
		earlier := m.callees
		m.callees = append(slices.Clone(funs), earlier...)
		n := m.node(k, funs)
		m.p.Nodes = append(m.p.Nodes, n)
		c := callee{name: n.Name, counts: counts{len(n.Ins), len(n.Outs)}}
		for _, f := range funs {
			c.funs = append(c.funs, f.counts)
		}
		m.callees = append(slices.Clone(earlier), c)
	}
	return clone(m.p)
}

func nodeName(k int) string { return "n" + strconv.Itoa(k) }

// funs draws static parameters for the node k, some with the name of a later node.
func (m *maker) funs(k, nodes int) []callee {
	var l []callee
	for i := range 1 + m.Intn(3) {
		f := callee{name: "f" + strconv.Itoa(i), counts: one(m, []counts{{1, 1}, {1, 1}, {1, 1}, {1, 1}, {1, 1}, {2, 1}, {1, 2}})}
		if later := k + 1 + i; later < nodes && m.Intn(4) == 0 {
			f.name = nodeName(later)
		}
		l = append(l, f)
	}
	return l
}

func (m *maker) node(k int, funs []callee) api.Node {
	n := api.Node{Name: nodeName(k), Ins: []string{"x", "y"}[:1+m.Intn(5)/4]}
	for _, f := range funs {
		n.Funs = append(n.Funs, f.name)
	}
	// The names of the Outs are those of the node, so that no two nodes are alike.
	items := 1 + m.Intn(5)
	m.vars = slices.Clone(n.Ins)
	for b := range items {
		m.vars = append(m.vars, "v"+strconv.Itoa(k)+strconv.Itoa(b))
	}
	defined := m.vars[len(n.Ins):]
	n.Outs = slices.Clone(defined[:1])
	for b := range items {
		n.Items = append(n.Items, item(m.expr(2), defined[b]))
	}
	if m.Intn(6) == 0 {
		n.Outs = append(n.Outs, m.pair(&n))
	}
	for _, f := range funs {
		m.calling(&n, f)
	}
	n.Items = append(n.Items, item(m.condition(1), "c"), item(api.Expr{Op: api.If, Kids: []api.Expr{m.condition(1), m.con("A"), m.con("B")}}, "d"))
	m.Shuffle(len(n.Items), func(i, j int) { n.Items[i], n.Items[j] = n.Items[j], n.Items[i] })
	return n
}

func (m *maker) con(name string) api.Expr { return api.Expr{Op: api.Con, Name: name} }

func item(e api.Expr, names ...string) api.Item {
	return api.Item{Eq: api.Eq{Names: names, E: e}}
}

// pair adds an item with a second result to n, and returns its name.
func (m *maker) pair(n *api.Node) string {
	first := n.Name + "a"
	if c := m.choose(2); c != nil {
		n.Items = append(n.Items, item(m.call(*c, 2), first, n.Name+"b"))
	} else {
		n.Items = append(n.Items, item(m.expr(1), first))
	}
	return first
}

// calling adds an item that calls a static parameter to n.
func (m *maker) calling(n *api.Node, f callee) {
	names := []string{"of" + f.name, "and" + f.name}[:f.outs]
	n.Items = append(n.Items, item(m.call(f, 2), names...))
}

// choose returns something with so many results, most often what something is passed to, or nil if nothing has so many.
func (m *maker) choose(outs int) *callee {
	l := slices.DeleteFunc(slices.Clone(m.callees), func(c callee) bool {
		return c.outs != outs || slices.ContainsFunc(c.funs, func(f counts) bool { return len(m.passable(f)) == 0 })
	})
	passing := slices.DeleteFunc(slices.Clone(l), func(c callee) bool { return len(c.funs) == 0 })
	if len(passing) > 0 && m.Intn(4) > 0 {
		l = passing
	}
	if len(l) == 0 {
		return nil
	}
	return &l[m.Intn(len(l))]
}

// passable returns the names of what can be passed for a static parameter.
func (m *maker) passable(f counts) []string {
	var l []string
	for _, c := range m.callees {
		if c.counts == f && len(c.funs) == 0 {
			l = append(l, c.name)
		}
	}
	return l
}

func (m *maker) call(c callee, depth int) api.Expr {
	e := api.Expr{Op: api.Call, Name: c.name, Kids: m.exprs(c.ins, depth-1)}
	for _, f := range c.funs {
		e.Cons = append(e.Cons, one(m, m.passable(f)))
	}
	if m.Intn(4) == 0 {
		e = api.Expr{Op: api.Every, Kids: []api.Expr{e, m.condition(depth - 1)}}
	}
	return e
}

func (m *maker) exprs(n, depth int) []api.Expr {
	var l []api.Expr
	for range n {
		l = append(l, m.expr(depth))
	}
	return l
}

// condition draws a boolean expression.
func (m *maker) condition(depth int) api.Expr {
	if depth <= 0 {
		return api.Expr{Op: api.Var, Name: "c"}
	}
	if m.Intn(3) == 0 {
		return api.Expr{Op: api.Un, Name: "not", Kids: []api.Expr{m.condition(depth - 1)}}
	}
	return api.Expr{Op: api.Bin, Name: one(m, []string{"<", "<=", "=", "<>"}), Kids: m.exprs(2, depth-1)}
}

// expr draws an expression that can be an integer.
func (m *maker) expr(depth int) api.Expr {
	if depth <= 0 {
		return m.leaf()
	}
	switch op := api.Un + m.Intn(3*(api.Every-api.Un+1)); op {
	case api.Un:
		return api.Expr{Op: op, Name: "-", Kids: m.exprs(1, depth-1)}
	case api.Bin:
		return api.Expr{Op: op, Name: one(m, []string{"+", "-", "*", "/", "%"}), Kids: m.exprs(2, depth-1)}
	case api.If:
		return api.Expr{Op: op, Kids: append([]api.Expr{m.condition(depth - 1)}, m.exprs(2, depth-1)...)}
	case api.Fby, api.Arrow:
		return api.Expr{Op: op, Kids: m.exprs(2, depth-1)}
	case api.Pre:
		return api.Expr{Op: op, Kids: m.exprs(1, depth-1)}
	case api.When, api.Merge, api.Match:
		return m.sample(depth - 1)
	default:
		if c := m.choose(1); c != nil {
			return m.call(*c, depth)
		}
	}
	return m.leaf()
}

// sample draws a when or a merge.
func (m *maker) sample(depth int) api.Expr {
	name, cons := "c", []string{"False", "True"}
	if m.Intn(2) == 0 {
		name, cons = "d", []string{"A", "B"}
	}
	if m.Intn(2) == 0 {
		return api.Expr{Op: api.When, Name: name, Cons: []string{one(m, cons)}, Kids: m.exprs(1, depth)}
	}
	return api.Expr{Op: api.Merge, Name: name, Cons: cons, Kids: m.exprs(2, depth)}
}

// leaf draws a variable or, more seldom, a constant.
func (m *maker) leaf() api.Expr {
	if m.Intn(4) == 0 {
		return api.Expr{Op: api.Int, N: int64(m.Intn(3))}
	}
	return api.Expr{Op: api.Var, Name: one(m, m.vars)}
}

// only returns those of l that have this Op.
func only(op int, l []*api.Expr) []*api.Expr {
	return slices.DeleteFunc(slices.Clone(l), func(e *api.Expr) bool { return e.Op != op })
}

// mutant returns p with something changed in one node, most often in a call.
func (m *maker) mutant(p api.Program) api.Program {
	p = clone(p)
	n := &p.Nodes[m.Intn(len(p.Nodes))]
	exprs, calls := exprsOf(n), only(api.Call, exprsOf(n))
	switch m.Intn(10) {
	case 0:
		*one(m, exprs) = clone(*one(m, exprs))
	case 1:
		*one(m, exprs) = api.Expr{Op: api.Bool}
	case 2:
		if l := only(api.Merge, exprs); len(l) > 0 {
			one(m, l).Op = api.Match
		}
	case 3:
		k := m.Intn(len(p.Nodes))
		p.Nodes[k].Name, n.Name = n.Name, p.Nodes[k].Name
	case 4:
		k, b := m.Intn(len(n.Items)), m.Intn(len(n.Items))
		n.Items[k], n.Items[b] = n.Items[b], n.Items[k]
	default:
		if len(calls) > 0 {
			m.changeCall(p, *n, one(m, calls))
		}
	}
	return p
}

// changeCall changes what a call calls, or what is passed to it.
func (m *maker) changeCall(p api.Program, n api.Node, e *api.Expr) {
	names := slices.Clone(n.Funs)
	for _, n := range p.Nodes {
		names = append(names, n.Name)
	}
	switch {
	case len(e.Cons) > 1 && m.Intn(2) == 0:
		slices.Reverse(e.Cons)
	case len(e.Cons) > 0 && m.Intn(4) > 0:
		e.Cons[m.Intn(len(e.Cons))] = one(m, names)
	case m.Intn(4) == 0:
		e.Cons = append(e.Cons, one(m, names))
	default:
		e.Name = one(m, names)
	}
}

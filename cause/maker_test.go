package cause_test

import (
	"math/rand"
	"slices"
	"strconv"

	"pendule/api"
)

// maker draws programs in which no variable waits for itself: each node after a choice of an order of its items, by which an item reads earlier ones only.
type maker struct {
	*rand.Rand
	p       api.Program
	known   []string // the variables that can be read
	all     []string // those that can stand behind a delay
	callees []callee
}

// callee is what can be called, and how many Funs, Ins and Outs it has.
type callee struct {
	name            string
	funs, ins, outs int
}

func newMaker(seed int64) *maker { return &maker{Rand: rand.New(rand.NewSource(seed))} }

func one[T any](m *maker, l []T) T { return l[m.Intn(len(l))] }

// program draws a program whose nodes have at most so many items.
func (m *maker) program(items int) api.Program {
	m.p = api.Program{Enums: []api.Enum{{Name: "t", Cons: []string{"A", "B"}}, {Name: "one", Cons: []string{"One"}}}}
	for k := range 1 + m.Intn(3) {
		m.p.Nodes = append(m.p.Nodes, m.node("n"+strconv.Itoa(k), 1+m.Intn(items)))
	}
	return clone(m.p)
}

func (m *maker) node(name string, items int) api.Node {
	n := api.Node{Name: name, Ins: []string{"x", "c"}[:1+m.Intn(2)]}
	if m.Intn(3) == 0 {
		n.Funs = []string{"g"}
	}
	m.findCallees(n)
	m.all = slices.Clone(n.Ins)
	for b := range items {
		i := item(api.Expr{}, "y"+strconv.Itoa(b))
		if m.Intn(4) == 0 && m.choose(2) != nil {
			i.Names = append(i.Names, "z"+strconv.Itoa(b))
		}
		m.all = append(m.all, i.Names...)
		n.Items = append(n.Items, i)
	}
	m.known = slices.Clone(n.Ins)
	for _, b := range m.Perm(items) {
		i := &n.Items[b]
		if i.E = m.expr(2); len(i.Names) > 1 {
			i.E = m.call(*m.choose(2), 2)
		}
		m.known = append(m.known, i.Names...)
	}
	n.Outs = m.all[len(n.Ins):][:1]
	if len(m.all) > len(n.Ins)+1 && m.Intn(2) == 0 {
		n.Outs = m.all[len(n.Ins):][:2]
	}
	return n
}

// findCallees finds what the items of n can call.
func (m *maker) findCallees(n api.Node) {
	m.callees = nil
	for _, f := range n.Funs {
		m.callees = append(m.callees, callee{f, 0, 1, 1})
	}
	for _, e := range m.p.Nodes {
		m.callees = append(m.callees, callee{e.Name, len(e.Funs), len(e.Ins), len(e.Outs)})
	}
}

// choose returns something with so many results, or nil if nothing has.
func (m *maker) choose(outs int) *callee {
	l := slices.DeleteFunc(slices.Clone(m.callees), func(c callee) bool {
		return c.outs != outs || c.funs > 0 && len(m.passable()) == 0
	})
	if len(l) == 0 {
		return nil
	}
	return &l[m.Intn(len(l))]
}

// passable returns the names of what can be passed for a static parameter.
func (m *maker) passable() []string {
	var l []string
	for _, c := range m.callees {
		if c.funs == 0 {
			l = append(l, c.name)
		}
	}
	return l
}

func (m *maker) call(c callee, depth int) api.Expr {
	e := api.Expr{Op: api.Call, Name: c.name, Kids: m.exprs(c.ins, depth-1)}
	for range c.funs {
		e.Cons = append(e.Cons, one(m, m.passable()))
	}
	if m.Intn(3) == 0 {
		e = with(api.Every, e, m.expr(depth-1))
	}
	return e
}

func (m *maker) exprs(n, depth int) []api.Expr {
	var l []api.Expr
	for range n {
		l = append(l, m.expr(depth))
	}
	return l
}

// delayed draws an expression that is not read.
func (m *maker) delayed(depth int) api.Expr {
	known := m.known
	m.known = m.all
	defer func() { m.known = known }()
	return m.expr(depth)
}

func (m *maker) expr(depth int) api.Expr {
	if depth <= 0 {
		return m.leaf()
	}
	switch op := api.Var + m.Intn(api.Every-api.Var+1); op {
	case api.Un:
		return api.Expr{Op: op, Name: one(m, []string{"not", "-"}), Kids: m.exprs(1, depth-1)}
	case api.Bin:
		return api.Expr{Op: op, Name: one(m, []string{"+", "<", "=", "and"}), Kids: m.exprs(2, depth-1)}
	case api.If:
		return with(op, m.exprs(3, depth-1)...)
	case api.Arrow:
		return with(op, m.exprs(2, depth-1)...)
	case api.Fby:
		return with(op, m.expr(depth-1), m.delayed(depth-1))
	case api.Pre:
		return with(op, m.delayed(depth-1))
	case api.When:
		return api.Expr{Op: op, Name: one(m, m.known), Cons: []string{one(m, []string{"A", "B", "One", "True"})}, Kids: m.exprs(1, depth-1)}
	case api.Merge:
		cons := one(m, [][]string{{"A", "B"}, {"One"}, {"False", "True"}})
		return api.Expr{Op: op, Name: one(m, m.known), Cons: cons, Kids: m.exprs(len(cons), depth-1)}
	case api.Call, api.Every:
		if c := m.choose(1); c != nil {
			return m.call(*c, depth)
		}
	}
	return m.leaf()
}

// leaf draws a variable or, more seldom, a constant.
func (m *maker) leaf() api.Expr {
	switch m.Intn(6) {
	case 0:
		return api.Expr{Op: api.Con, Name: one(m, []string{"A", "One", "False"})}
	case 1:
		return api.Expr{Op: api.Int + m.Intn(2), N: int64(m.Intn(2))}
	}
	return variable(one(m, m.known))
}

// pointers returns e and all expressions in it.
func pointers(e *api.Expr) []*api.Expr {
	l := []*api.Expr{e}
	for i := range e.Kids {
		l = append(l, pointers(&e.Kids[i])...)
	}
	return l
}

// mutant returns p with something changed in one node.
func (m *maker) mutant(p api.Program) api.Program {
	p = clone(p)
	n := &p.Nodes[m.Intn(len(p.Nodes))]
	e := one(m, pointers(&one(m, itemsOf(n)).E))
	switch m.Intn(14) {
	case 0, 1, 2, 3, 4, 10, 11:
		if slices.Contains([]int{api.Var, api.When, api.Merge}, e.Op) {
			e.Name = one(m, varsOf(*n))
		}
	case 5, 6:
		m.changeDelay(e)
	case 7:
		*e = clone(one(m, itemsOf(n)).E)
	case 8:
		*e = variable(one(m, varsOf(*n)))
	case 9:
		m.sugar(n)
	default:
		m.Shuffle(len(n.Items), func(i, j int) { n.Items[i], n.Items[j] = n.Items[j], n.Items[i] })
	}
	return p
}

// itemsOf returns pointers to the items of n.
func itemsOf(n *api.Node) []*api.Item {
	var l []*api.Item
	for b := range n.Items {
		l = append(l, &n.Items[b])
	}
	return l
}

// varsOf returns the parameters of n, and then what its items define.
func varsOf(n api.Node) []string {
	l := slices.Clone(n.Ins)
	for _, i := range n.Items {
		l = append(l, definedBy(i)...)
	}
	return l
}

// changeDelay takes a delay away, turns it, makes another one of it, or puts one around e.
func (m *maker) changeDelay(e *api.Expr) {
	switch {
	case e.Op == api.Pre:
		*e = e.Kids[0]
	case e.Op == api.Fby && m.Intn(2) == 0:
		slices.Reverse(e.Kids)
	case e.Op == api.Fby || e.Op == api.Arrow:
		e.Op = api.Fby + api.Arrow - e.Op
	default:
		*e = with(api.Pre, clone(*e))
	}
}

// sugar makes an automaton of an item, or a match of a merge.
func (m *maker) sugar(n *api.Node) {
	i := one(m, itemsOf(n))
	e := one(m, pointers(&i.E))
	if e.Op == api.Merge {
		e.Op = api.Match
	} else if len(i.Names) == 1 {
		*i = api.Item{States: []api.State{{Name: "S", Eqs: []api.Eq{i.Eq}}}}
	}
}

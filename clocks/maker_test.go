package clocks_test

import (
	"math/rand"
	"slices"
	"strconv"

	"pendule/api"
)

// maker draws programs that have clocks: each node after clocks that its variables are to have.
type maker struct {
	*rand.Rand
	p     api.Program
	n     api.Node // the one that is drawn
	vars  []api.Named
	small bool // whether a judge shall be able to try all clocks of a node
}

func newMaker(seed int64) *maker {
	return &maker{Rand: rand.New(rand.NewSource(seed)), small: true}
}

func one[T any](m *maker, l []T) T { return l[m.Intn(len(l))] }

// program draws a program, and returns it with the variables of its nodes and the clocks that they were drawn with. These may be longer than those that the rules determine, where they leave open how a clock begins.
func (m *maker) program() (api.Program, [][]api.Named) {
	m.p = api.Program{}
	for i := range 1 + m.Intn(2) {
		e := api.Enum{Name: "t" + strconv.Itoa(i)}
		for c := range 1 + m.Intn(2) {
			e.Cons = append(e.Cons, "C"+strconv.Itoa(i)+strconv.Itoa(c))
		}
		m.p.Enums = append(m.p.Enums, e)
	}
	var all [][]api.Named
	for i := range 1 + m.Intn(3) {
		m.node("n" + strconv.Itoa(i))
		m.p.Nodes = append(m.p.Nodes, m.n)
		all = append(all, m.vars)
	}
	return clone(m.p), clone(all)
}

func (m *maker) node(name string) {
	m.n, m.vars = api.Node{Name: name}, nil
	if m.Intn(4) == 0 {
		m.n.Funs = []string{"g"}
	}
	for range 1 + m.Intn(2) {
		m.n.Ins = append(m.n.Ins, m.variable("x", nil))
	}
	m.n.Outs = []string{m.variable("y", nil)}
	m.n.Items = []api.Item{{Eq: api.Eq{Names: slices.Clone(m.n.Outs)}}}
	depth, items := 2, 3
	if !m.small {
		depth, items = 4, 10
	}
	for range m.Intn(items + 1) {
		m.item()
	}
	m.Shuffle(len(m.n.Items), func(i, j int) { m.n.Items[i], m.n.Items[j] = m.n.Items[j], m.n.Items[i] })
	for b := range m.n.Items {
		i := &m.n.Items[b]
		i.E = m.right(len(i.Names), m.clockOf(i.Names[0]), depth)
	}
	m.order()
}

// order puts the variables in the order of the items.
func (m *maker) order() {
	var l []api.Named
	for _, v := range varsOf(m.n) {
		l = append(l, api.Named{Name: v, Clock: m.clockOf(v)})
	}
	m.vars = l
}

// variable adds a variable whose name begins with s, and returns the name.
func (m *maker) variable(s string, c api.Clock) string {
	name := s + strconv.Itoa(len(m.vars))
	m.vars = append(m.vars, api.Named{Name: name, Clock: c})
	return name
}

func (m *maker) clockOf(name string) api.Clock {
	i := slices.IndexFunc(m.vars, func(v api.Named) bool { return v.Name == name })
	return slices.Clone(m.vars[i].Clock)
}

// item adds an equation without its expression: an Out, or one or two other variables.
func (m *maker) item() {
	if m.Intn(6) == 0 && len(m.n.Outs) < api.MaxArgs {
		out := m.variable("y", nil)
		m.n.Outs = append(m.n.Outs, out)
		m.n.Items = append(m.n.Items, api.Item{Eq: api.Eq{Names: []string{out}}})
		return
	}
	c := one(m, m.vars).Clock
	if m.Intn(3) > 0 {
		v := one(m, m.vars)
		c = append(slices.Clone(v.Clock), api.Sample{Var: v.Name, Con: one(m, one(m, m.enums()))})
	}
	q := api.Eq{Names: []string{m.variable("z", c)}}
	if m.Intn(6) == 0 && m.two() != nil {
		q.Names = append(q.Names, m.variable("z", c))
	}
	m.n.Items = append(m.n.Items, api.Item{Eq: q})
}

func (m *maker) enums() [][]string {
	l := [][]string{{"False", "True"}}
	for _, e := range m.p.Enums {
		l = append(l, slices.Clone(e.Cons))
	}
	return l
}

// passable returns the names of what can be passed for a static parameter.
func (m *maker) passable() []string {
	names := slices.Clone(m.n.Funs)
	for _, k := range m.p.Nodes {
		if len(k.Funs) == 0 {
			names = append(names, k.Name)
		}
	}
	return names
}

// callees returns the earlier nodes with n Outs that can be called.
func (m *maker) callees(n int) []api.Node {
	none := len(m.passable()) == 0
	return slices.DeleteFunc(slices.Clone(m.p.Nodes), func(k api.Node) bool { return len(k.Outs) != n || none && len(k.Funs) > 0 })
}

// two returns what has two results, or nil if nothing has.
func (m *maker) two() []api.Node {
	if l := m.callees(2); len(l) > 0 {
		return l
	}
	if len(m.n.Funs) > 0 {
		return []api.Node{{Name: "g", Ins: []string{"a"}}}
	}
	return nil
}

// right draws an expression with n results.
func (m *maker) right(n int, c api.Clock, depth int) api.Expr {
	if n > 1 {
		return m.call(one(m, m.two()), c, depth)
	}
	return m.expr(c, depth)
}

func (m *maker) call(callee api.Node, c api.Clock, depth int) api.Expr {
	e := api.Expr{Op: api.Call, Name: callee.Name, Kids: m.exprs(len(callee.Ins), c, depth-1)}
	if len(callee.Funs) > 0 {
		e.Cons = []string{one(m, m.passable())}
	}
	if m.Intn(3) == 0 {
		e = api.Expr{Op: api.Every, Kids: []api.Expr{e, m.expr(c, depth-1)}}
	}
	return e
}

func (m *maker) exprs(n int, c api.Clock, depth int) []api.Expr {
	var l []api.Expr
	for range n {
		l = append(l, m.expr(c, depth))
	}
	return l
}

// expr draws an expression that can have the clock c.
func (m *maker) expr(c api.Clock, depth int) api.Expr {
	if depth <= 0 {
		return m.leaf(c)
	}
	switch op := api.Var + m.Intn(api.Call-api.Var+2); op {
	case api.Un:
		return api.Expr{Op: op, Name: one(m, []string{"not", "-"}), Kids: m.exprs(1, c, depth-1)}
	case api.Bin:
		return api.Expr{Op: op, Name: one(m, []string{"+", "<", "=", "and"}), Kids: m.exprs(2, c, depth-1)}
	case api.If:
		return api.Expr{Op: op, Kids: m.exprs(3, c, depth-1)}
	case api.Fby, api.Arrow:
		return api.Expr{Op: op, Kids: m.exprs(2, c, depth-1)}
	case api.Pre:
		return api.Expr{Op: op, Kids: m.exprs(1, c, depth-1)}
	case api.When:
		return m.when(c, depth-1)
	case api.Merge, api.Match:
		return m.merge(c, depth-1)
	case api.Call, api.Call + 1:
		if l := m.callees(1); len(l) > 0 {
			return m.call(one(m, l), c, depth)
		}
		if len(m.n.Funs) > 0 {
			return m.call(api.Node{Name: "g", Ins: []string{"a"}}, c, depth)
		}
	}
	return m.leaf(c)
}

// leaf draws a variable of the clock c, or what becomes one by samples, or, more seldom, a constant.
func (m *maker) leaf(c api.Clock) api.Expr {
	fits := slices.DeleteFunc(slices.Clone(m.vars), func(v api.Named) bool { return !slices.Equal(v.Clock, c) })
	switch {
	case len(fits) > 0 && m.Intn(4) > 0:
		return api.Expr{Op: api.Var, Name: one(m, fits).Name}
	case len(c) > 0 && m.Intn(3) > 0:
		return m.when(c, 0)
	case m.Intn(2) == 0:
		return api.Expr{Op: api.Con, Name: one(m, one(m, m.enums()))}
	}
	return api.Expr{Op: api.Int, N: int64(m.Intn(3))}
}

func (m *maker) when(c api.Clock, depth int) api.Expr {
	if len(c) == 0 {
		return m.leaf(c)
	}
	s := c[len(c)-1]
	return api.Expr{Op: api.When, Name: s.Var, Cons: []string{s.Con}, Kids: m.exprs(1, c[:len(c)-1], depth)}
}

func (m *maker) merge(c api.Clock, depth int) api.Expr {
	by := slices.DeleteFunc(slices.Clone(m.vars), func(v api.Named) bool { return !slices.Equal(v.Clock, c) })
	if len(by) == 0 {
		return m.leaf(c)
	}
	e := api.Expr{Op: api.Merge, Name: one(m, by).Name, Cons: one(m, m.enums())}
	for _, con := range e.Cons {
		e.Kids = append(e.Kids, m.expr(append(slices.Clone(c), api.Sample{Var: e.Name, Con: con}), depth))
	}
	return e
}

// mutant returns p with something changed in one node.
func (m *maker) mutant(p api.Program) api.Program {
	p = clone(p)
	m.p = p
	n := &p.Nodes[m.Intn(len(p.Nodes))]
	var exprs, readers []*api.Expr
	for b := range n.Items {
		for _, e := range pointers(&n.Items[b].E) {
			exprs = append(exprs, e)
			if e.Op == api.Var || e.Op == api.When || e.Op == api.Merge {
				readers = append(readers, e)
			}
		}
	}
	switch m.Intn(10) {
	case 0, 1:
		*one(m, exprs) = clone(*one(m, exprs))
	case 2, 3, 4:
		if len(readers) > 0 {
			one(m, readers).Name = one(m, varsOf(*n))
		}
	case 5, 6:
		m.changeSample(n, one(m, exprs))
	case 7:
		m.n = *n
		m.changeItems(exprs)
	default:
		l := n.Items
		i, j := m.Intn(len(l)), m.Intn(len(l))
		l[i], l[j] = l[j], l[i]
	}
	return p
}

// pointers returns e and all expressions in it.
func pointers(e *api.Expr) []*api.Expr {
	l := []*api.Expr{e}
	for i := range e.Kids {
		l = append(l, pointers(&e.Kids[i])...)
	}
	return l
}

// changeSample puts a when around e, takes it away, or changes its constructor.
func (m *maker) changeSample(n *api.Node, e *api.Expr) {
	con := one(m, one(m, m.enums()))
	switch {
	case e.Op == api.When && m.Intn(2) == 0:
		e.Cons[0] = con
	case e.Op == api.When:
		*e = e.Kids[0]
	default:
		*e = api.Expr{Op: api.When, Name: one(m, varsOf(*n)), Cons: []string{con}, Kids: []api.Expr{clone(*e)}}
	}
}

// changeItems makes a match or an automaton of something, or an Out of a variable.
func (m *maker) changeItems(exprs []*api.Expr) {
	l := m.n.Items
	i := m.Intn(len(l))
	switch m.Intn(3) {
	case 0:
		if len(l[i].Names) == 1 {
			l[i] = api.Item{States: []api.State{{Name: "State", Eqs: []api.Eq{l[i].Eq}}}}
		}
	case 1:
		for _, e := range exprs {
			if e.Op == api.Merge {
				e.Op = api.Match
				return
			}
		}
	default:
		if len(l[i].Names) > 0 {
			m.n.Outs[0] = one(m, l[i].Names)
		}
	}
}

package first_test

import (
	"math/rand"
	"slices"
	"strconv"

	"pendule/api"
)

// maker draws programs in which all is firm that must be: each node after a choice of the variables that may be open.
type maker struct {
	*rand.Rand
	p      api.Program
	n      api.Node // the one that is drawn
	firm   []string // its variables that are to be firm
	open   []string // those that may be open
	small  bool     // whether a judge shall be able to try all sets of variables of a node
	number int      // of variables of the node so far
}

func newMaker(seed int64) *maker {
	return &maker{Rand: rand.New(rand.NewSource(seed)), small: true}
}

func one[T any](m *maker, l []T) T { return l[m.Intn(len(l))] }

// program draws a program, and returns it with the variables of its nodes that may be open.
func (m *maker) program() (api.Program, [][]string) {
	m.p = api.Program{}
	for i := range 1 + m.Intn(2) {
		e := api.Enum{Name: "t" + strconv.Itoa(i)}
		for c := range 1 + m.Intn(2) {
			e.Cons = append(e.Cons, "C"+strconv.Itoa(i)+strconv.Itoa(c))
		}
		m.p.Enums = append(m.p.Enums, e)
	}
	var all [][]string
	for i := range 1 + m.Intn(3) {
		m.node("n" + strconv.Itoa(i))
		m.p.Nodes = append(m.p.Nodes, m.n)
		all = append(all, m.open)
	}
	return clone(m.p), clone(all)
}

func (m *maker) node(name string) {
	m.n, m.firm, m.open, m.number = api.Node{Name: name}, nil, nil, 0
	if m.Intn(4) == 0 {
		m.n.Funs = []string{"g"}
	}
	for range 1 + m.Intn(2) {
		m.n.Ins = append(m.n.Ins, m.variable("x", false))
	}
	m.addOut()
	depth, items := 2, 4
	if !m.small {
		depth, items = 4, 12
	}
	for range m.Intn(items + 1) {
		m.item()
	}
	m.Shuffle(len(m.n.Items), func(i, j int) { m.n.Items[i], m.n.Items[j] = m.n.Items[j], m.n.Items[i] })
	for b := range m.n.Items {
		i := &m.n.Items[b]
		if len(i.Names) > 1 {
			i.E = m.call(one(m, m.two()), depth)
		} else {
			i.E = m.expr(slices.Contains(m.open, i.Names[0]), depth)
		}
	}
}

// variable adds a variable whose name begins with s, and returns the name.
func (m *maker) variable(s string, open bool) string {
	name := s + strconv.Itoa(m.number)
	m.number++
	if open {
		m.open = append(m.open, name)
	} else {
		m.firm = append(m.firm, name)
	}
	return name
}

func (m *maker) addOut() {
	out := m.variable("y", false)
	m.n.Outs = append(m.n.Outs, out)
	m.n.Items = append(m.n.Items, item(out, api.Expr{}))
}

// item adds an equation without its expression: an Out, or one or two other variables.
func (m *maker) item() {
	switch {
	case m.Intn(6) == 0 && len(m.n.Outs) < api.MaxArgs:
		m.addOut()
	case m.Intn(6) == 0 && m.two() != nil:
		m.n.Items = append(m.n.Items, api.Item{Eq: api.Eq{Names: []string{m.variable("z", false), m.variable("z", false)}}})
	default:
		m.n.Items = append(m.n.Items, item(m.variable("z", m.Intn(2) == 0), api.Expr{}))
	}
}

func (m *maker) enums() [][]string {
	l := [][]string{{"False", "True"}}
	for _, e := range m.p.Enums {
		l = append(l, slices.Clone(e.Cons))
	}
	return l
}

// passable returns the names of what can be passed for a static parameter.
func (m *maker) passable() []string {
	names := slices.Clone(m.n.Funs)
	for _, k := range m.p.Nodes {
		if len(k.Funs) == 0 {
			names = append(names, k.Name)
		}
	}
	return names
}

// callees returns the earlier nodes with n Outs that can be called.
func (m *maker) callees(n int) []api.Node {
	none := len(m.passable()) == 0
	return slices.DeleteFunc(slices.Clone(m.p.Nodes), func(k api.Node) bool { return len(k.Outs) != n || none && len(k.Funs) > 0 })
}

// two returns what has two results, or nil if nothing has.
func (m *maker) two() []api.Node {
	if l := m.callees(2); len(l) > 0 {
		return l
	}
	if len(m.n.Funs) > 0 {
		return []api.Node{{Name: "g", Ins: []string{"a"}}}
	}
	return nil
}

func (m *maker) call(callee api.Node, depth int) api.Expr {
	e := api.Expr{Op: api.Call, Name: callee.Name, Kids: m.exprs(len(callee.Ins), false, depth-1)}
	if len(callee.Funs) > 0 {
		e.Cons = []string{one(m, m.passable())}
	}
	if m.Intn(3) == 0 {
		e = api.Expr{Op: api.Every, Kids: []api.Expr{e, m.expr(false, depth-1)}}
	}
	return e
}

func (m *maker) exprs(n int, open bool, depth int) []api.Expr {
	var l []api.Expr
	for range n {
		l = append(l, m.expr(open, depth))
	}
	return l
}

// expr draws an expression that is firm, or one that may be open.
func (m *maker) expr(open bool, depth int) api.Expr {
	if depth <= 0 {
		return m.leaf(open)
	}
	switch op := api.Var + m.Intn(api.Call-api.Var+2); op {
	case api.Un:
		return api.Expr{Op: op, Name: one(m, []string{"not", "-"}), Kids: m.exprs(1, open, depth-1)}
	case api.Bin:
		return api.Expr{Op: op, Name: one(m, []string{"+", "<", "=", "and"}), Kids: m.exprs(2, open, depth-1)}
	case api.If:
		return api.Expr{Op: op, Kids: m.exprs(3, open, depth-1)}
	case api.Fby:
		return api.Expr{Op: op, Kids: []api.Expr{m.expr(open, depth-1), m.expr(false, depth-1)}}
	case api.Arrow:
		return api.Expr{Op: op, Kids: []api.Expr{m.expr(open, depth-1), m.expr(true, depth-1)}}
	case api.Pre:
		if open {
			return api.Expr{Op: op, Kids: m.exprs(1, false, depth-1)}
		}
	case api.When:
		return api.Expr{Op: op, Name: one(m, m.firm), Cons: []string{one(m, one(m, m.enums()))}, Kids: m.exprs(1, open, depth-1)}
	case api.Merge, api.Match:
		cons := one(m, m.enums())
		return api.Expr{Op: api.Merge, Name: one(m, m.firm), Cons: cons, Kids: m.exprs(len(cons), false, depth-1)}
	case api.Call, api.Call + 1:
		if l := m.callees(1); len(l) > 0 {
			return m.call(one(m, l), depth)
		}
		if len(m.n.Funs) > 0 {
			return m.call(api.Node{Name: "g", Ins: []string{"a"}}, depth)
		}
	}
	return m.leaf(open)
}

// leaf draws a variable or, more seldom, a constant or a delay of one of both.
func (m *maker) leaf(open bool) api.Expr {
	switch {
	case open && m.Intn(4) == 0:
		return api.Expr{Op: api.Pre, Kids: []api.Expr{m.leaf(false)}}
	case open && len(m.open) > 0 && m.Intn(2) == 0:
		return api.Expr{Op: api.Var, Name: one(m, m.open)}
	case m.Intn(4) > 0:
		return api.Expr{Op: api.Var, Name: one(m, m.firm)}
	case m.Intn(2) == 0:
		return api.Expr{Op: api.Con, Name: one(m, one(m, m.enums()))}
	}
	return api.Expr{Op: api.Int + m.Intn(2), N: int64(m.Intn(2))}
}

// mutant returns p with something changed in one node.
func (m *maker) mutant(p api.Program) api.Program {
	p = clone(p)
	n := &p.Nodes[m.Intn(len(p.Nodes))]
	var exprs, readers []*api.Expr
	for b := range n.Items {
		for _, e := range pointers(&n.Items[b].E) {
			exprs = append(exprs, e)
			if e.Op == api.Var || e.Op == api.When || e.Op == api.Merge {
				readers = append(readers, e)
			}
		}
	}
	switch m.Intn(10) {
	case 0, 1:
		*one(m, exprs) = clone(*one(m, exprs))
	case 2, 3, 4:
		if len(readers) > 0 {
			one(m, readers).Name = one(m, varsOf(*n))
		}
	case 5, 6:
		m.changeDelay(one(m, exprs))
	case 7:
		m.changeItems(n, exprs)
	default:
		l := n.Items
		i, j := m.Intn(len(l)), m.Intn(len(l))
		l[i], l[j] = l[j], l[i]
	}
	return p
}

// pointers returns e and all expressions in it.
func pointers(e *api.Expr) []*api.Expr {
	l := []*api.Expr{e}
	for i := range e.Kids {
		l = append(l, pointers(&e.Kids[i])...)
	}
	return l
}

// changeDelay puts a pre around e, takes it away, or makes another delay of e.
func (m *maker) changeDelay(e *api.Expr) {
	switch {
	case e.Op == api.Pre:
		*e = e.Kids[0]
	case e.Op == api.Fby || e.Op == api.Arrow:
		e.Op = api.Fby + api.Arrow - e.Op
	default:
		*e = api.Expr{Op: api.Pre, Kids: []api.Expr{clone(*e)}}
	}
}

// changeItems makes a match or an automaton of something, or an Out of a variable.
func (m *maker) changeItems(n *api.Node, exprs []*api.Expr) {
	l := n.Items
	i := m.Intn(len(l))
	switch m.Intn(3) {
	case 0:
		if len(l[i].Names) == 1 {
			l[i] = api.Item{States: []api.State{{Name: "State", Eqs: []api.Eq{l[i].Eq}}}}
		}
	case 1:
		for _, e := range exprs {
			if e.Op == api.Merge {
				e.Op = api.Match
				return
			}
		}
	default:
		if len(l[i].Names) > 0 {
			n.Outs[0] = one(m, l[i].Names)
		}
	}
}

package normal_test

import (
	"math/rand"
	"slices"
	"strconv"

	"pendule/api"
)

// maker draws programs that can be played: each node after types and clocks that its variables are to have, in the order of which they may read one another.
type maker struct {
	*rand.Rand
	p       api.Program
	sigs    []api.Sig // of the nodes
	n       api.Node  // the one that is drawn
	vars    []api.Named
	samples int // of how many variables in ten the clocks are not the base clock
}

func newMaker(seed int64) *maker {
	return &maker{Rand: rand.New(rand.NewSource(seed)), samples: 6}
}

func one[T any](m *maker, l []T) T { return l[m.Intn(len(l))] }

// program draws a program with so many nodes.
func (m *maker) program(nodes int) api.Program {
	m.p, m.sigs = api.Program{}, nil
	for i := range 1 + m.Intn(2) {
		e := api.Enum{Name: "t" + strconv.Itoa(i)}
		for c := range 1 + m.Intn(3) {
			e.Cons = append(e.Cons, "C"+strconv.Itoa(i)+strconv.Itoa(c))
		}
		m.p.Enums = append(m.p.Enums, e)
	}
	for k := range nodes {
		m.node("n" + strconv.Itoa(k))
		m.p.Nodes = append(m.p.Nodes, m.n)
	}
	return clone(m.p)
}

func (m *maker) anyType() api.Type {
	return one(m, []api.Type{api.TyInt, api.TyInt, api.TyInt, api.TyBool, api.TyBool, api.TyEnum + api.Type(m.Intn(len(m.p.Enums)))})
}

// cons returns the constructors of a type, if it has any.
func (m *maker) cons(t api.Type) []string {
	switch {
	case t == api.TyBool:
		return []string{"False", "True"}
	case t >= api.TyEnum:
		return slices.Clone(m.p.Enums[t-api.TyEnum].Cons)
	}
	return nil
}

func (m *maker) node(name string) {
	m.n, m.vars = api.Node{Name: name}, nil
	for range 1 + m.Intn(3) {
		m.n.Ins = append(m.n.Ins, m.variable(m.anyType(), nil))
	}
	sig := api.Sig{}
	for _, v := range m.vars {
		sig.Ins = append(sig.Ins, v.Type)
	}
	items := 2 + m.Intn(5)
	for b := range items {
		m.item(b == items-1)
	}
	for _, v := range m.vars[len(m.n.Ins):] {
		if len(v.Clock) == 0 && m.Intn(2) == 0 && len(m.n.Outs) < 2 || len(m.n.Outs) == 0 && v.Name == m.vars[len(m.vars)-1].Name {
			m.n.Outs = append(m.n.Outs, v.Name)
			sig.Outs = append(sig.Outs, v.Type)
		}
	}
	m.sigs = append(m.sigs, sig)
	m.Shuffle(len(m.n.Items), func(i, j int) { m.n.Items[i], m.n.Items[j] = m.n.Items[j], m.n.Items[i] })
}

// variable adds a variable and returns its name.
func (m *maker) variable(t api.Type, c api.Clock) string {
	name := "v" + strconv.Itoa(len(m.vars))
	m.vars = append(m.vars, api.Named{Name: name, Type: t, Clock: c})
	return name
}

// item adds an equation, the last one for what is always present.
func (m *maker) item(last bool) {
	t, c := m.anyType(), api.Clock(nil)
	if !last && m.Intn(10) < m.samples {
		c = m.clock()
	}
	limit := len(m.vars)
	calls := m.callees(2)
	if len(calls) > 0 && m.Intn(3) == 0 {
		k := one(m, calls)
		outs := m.sigs[k].Outs
		names := []string{m.variable(outs[0], c), m.variable(outs[1], c)}
		m.n.Items = append(m.n.Items, api.Item{Eq: api.Eq{Names: names}})
		m.n.Items[len(m.n.Items)-1].E = m.call(k, place{t, c, limit}, 2)
		return
	}
	names := []string{m.variable(t, c)}
	m.n.Items = append(m.n.Items, api.Item{Eq: api.Eq{Names: names}})
	m.n.Items[len(m.n.Items)-1].E = m.expr(place{t, c, limit}, 3)
}

// clock draws the clock of a variable, or that with a sample of it.
func (m *maker) clock() api.Clock {
	l := slices.DeleteFunc(slices.Clone(m.vars), func(v api.Named) bool { return m.cons(v.Type) == nil })
	if len(l) == 0 {
		return nil
	}
	v := one(m, l)
	return append(slices.Clone(v.Clock), api.Sample{Var: v.Name, Con: one(m, m.cons(v.Type))})
}

// place is what an expression has to be: of a type and a clock, and it may read the first variables, so many of them.
type place struct {
	t     api.Type
	c     api.Clock
	limit int
}

func (at place) of(t api.Type) place { return place{t, at.c, at.limit} }

func (at place) on(c api.Clock) place { return place{at.t, c, at.limit} }

// delayed returns the place of what is delayed there. All variables are there then, but for those that are still to be drawn.
func (m *maker) delayed(at place) place { return place{at.t, at.c, len(m.vars)} }

// fits returns the variables that can stand at a place.
func (m *maker) fits(at place) []api.Named {
	return slices.DeleteFunc(slices.Clone(m.vars[:at.limit]), func(v api.Named) bool { return v.Type != at.t || !slices.Equal(v.Clock, at.c) })
}

// callees returns the nodes with so many Outs.
func (m *maker) callees(outs int) []int {
	var l []int
	for k, s := range m.sigs {
		if len(s.Outs) == outs {
			l = append(l, k)
		}
	}
	return l
}

func (m *maker) call(k int, at place, depth int) api.Expr {
	e := api.Expr{Op: api.Call, Name: m.p.Nodes[k].Name}
	for _, t := range m.sigs[k].Ins {
		e.Kids = append(e.Kids, m.expr(at.of(t), depth-1))
	}
	if m.Intn(2) == 0 {
		e = api.Expr{Op: api.Every, Kids: []api.Expr{e, m.expr(at.of(api.TyBool), depth-1)}}
	}
	return e
}

func (m *maker) exprs(n int, at place, depth int) []api.Expr {
	var l []api.Expr
	for range n {
		l = append(l, m.expr(at, depth))
	}
	return l
}

func (m *maker) expr(at place, depth int) api.Expr {
	if depth <= 0 {
		return m.leaf(at)
	}
	switch m.Intn(14) {
	case 0, 1, 2:
		return m.operation(at, depth-1)
	case 3:
		return api.Expr{Op: api.If, Kids: append(m.exprs(1, at.of(api.TyBool), depth-1), m.exprs(2, at, depth-1)...)}
	case 4, 5:
		return api.Expr{Op: api.Fby, Kids: []api.Expr{m.expr(at, depth-1), m.expr(m.delayed(at), depth-1)}}
	case 6:
		return api.Expr{Op: api.Pre, Kids: m.exprs(1, m.delayed(at), depth-1)}
	case 7:
		return api.Expr{Op: api.Arrow, Kids: m.exprs(2, at, depth-1)}
	case 8:
		return m.when(at, depth-1)
	case 9, 10:
		return m.merge(at, depth-1)
	case 11, 12:
		calls := slices.DeleteFunc(m.callees(1), func(k int) bool { return m.sigs[k].Outs[0] != at.t })
		if len(calls) > 0 {
			return m.call(one(m, calls), at, depth)
		}
	}
	return m.leaf(at)
}

func (m *maker) operation(at place, depth int) api.Expr {
	binary := func(t api.Type, operators ...string) api.Expr {
		return api.Expr{Op: api.Bin, Name: one(m, operators), Kids: m.exprs(2, at.of(t), depth)}
	}
	unary := func(operator string) api.Expr {
		return api.Expr{Op: api.Un, Name: operator, Kids: m.exprs(1, at, depth)}
	}
	switch at.t {
	case api.TyInt:
		if m.Intn(4) == 0 {
			return unary("-")
		}
		return binary(api.TyInt, "+", "-", "*", "/", "%")
	case api.TyBool:
		switch m.Intn(4) {
		case 0:
			return unary("not")
		case 1:
			return binary(api.TyBool, "and", "or")
		case 2:
			return binary(m.anyType(), "=", "<>")
		}
		return binary(api.TyInt, "<", "<=")
	}
	return m.leaf(at)
}

// leaf draws a variable, or what becomes one by samples, or, more seldom, a constant.
func (m *maker) leaf(at place) api.Expr {
	l := m.fits(at)
	switch {
	case len(l) > 0 && m.Intn(4) > 0:
		return api.Expr{Op: api.Var, Name: one(m, l).Name}
	case len(at.c) > 0 && m.Intn(3) > 0:
		return m.when(at, 0)
	case at.t == api.TyInt:
		return api.Expr{Op: api.Int, N: int64(m.Intn(4))}
	case at.t == api.TyBool && m.Intn(2) == 0:
		return api.Expr{Op: api.Bool, N: int64(m.Intn(2))}
	}
	return api.Expr{Op: api.Con, Name: one(m, m.cons(at.t))}
}

func (m *maker) when(at place, depth int) api.Expr {
	if len(at.c) == 0 {
		return m.leaf(at)
	}
	s := at.c[len(at.c)-1]
	return api.Expr{Op: api.When, Name: s.Var, Cons: []string{s.Con}, Kids: m.exprs(1, at.on(at.c[:len(at.c)-1]), depth)}
}

func (m *maker) merge(at place, depth int) api.Expr {
	by := slices.DeleteFunc(slices.Clone(m.vars[:at.limit]), func(v api.Named) bool { return m.cons(v.Type) == nil || !slices.Equal(v.Clock, at.c) })
	if len(by) == 0 {
		return m.leaf(at)
	}
	v := one(m, by)
	e := api.Expr{Op: api.Merge, Name: v.Name, Cons: m.cons(v.Type)}
	for _, con := range e.Cons {
		e.Kids = append(e.Kids, m.expr(at.on(append(slices.Clone(at.c), api.Sample{Var: v.Name, Con: con})), depth))
	}
	return e
}

// script draws rows of values of these types.
func (m *maker) script(p api.Program, types []api.Type, rows int) [][]int64 {
	var l [][]int64
	for range rows {
		row := []int64{}
		for _, t := range types {
			switch {
			case t == api.TyBool:
				row = append(row, int64(m.Intn(2)))
			case t >= api.TyEnum:
				row = append(row, int64(m.Intn(len(p.Enums[t-api.TyEnum].Cons))))
			default:
				row = append(row, int64(m.Intn(7)-3))
			}
		}
		l = append(l, row)
	}
	return l
}

// mutant returns p with something changed in one node.
func (m *maker) mutant(p api.Program) api.Program {
	p = clone(p)
	n := &p.Nodes[m.Intn(len(p.Nodes))]
	exprs := exprsOf(n)
	e := one(m, exprs)
	switch m.Intn(12) {
	case 0, 1:
		*e = clone(*one(m, exprs))
	case 2, 3, 4:
		if e.Op == api.Var || e.Op == api.When || e.Op == api.Merge {
			e.Name = one(m, varsOf(*n))
		}
	case 5, 6:
		switch {
		case e.Op == api.Fby || e.Op == api.Arrow:
			e.Op = api.Fby + api.Arrow - e.Op
		case e.Op == api.Pre:
			*e = e.Kids[0]
		default:
			*e = api.Expr{Op: api.Pre, Kids: []api.Expr{clone(*e)}}
		}
	case 7:
		slices.Reverse(e.Kids)
	case 8:
		slices.Reverse(n.Outs)
	case 9:
		if e.Op == api.Merge {
			*e = api.Expr{Op: api.Match, Name: e.Name, Cons: e.Cons, Kids: slices.Repeat([]api.Expr{{Op: api.Int, N: 1}}, len(e.Cons))}
		} else {
			n.Funs, *e = []string{"g"}, api.Expr{Op: api.Call, Name: "g", Kids: []api.Expr{clone(*e)}}
		}
	case 10:
		n.Outs[0] = one(m, varsOf(*n))
	default:
		i, j := m.Intn(len(n.Items)), m.Intn(len(n.Items))
		n.Items[i], n.Items[j] = n.Items[j], n.Items[i]
	}
	return p
}

package types_test

import (
	"math/rand"
	"slices"
	"strconv"

	"pendule/api"
)

// maker draws programs that have types: each node after types that it is to have, with calls by the signatures that a judge finds for the nodes ahead of it.
type maker struct {
	*rand.Rand
	j    *judge
	n    api.Node // the one that is drawn
	vars []typed
	room int // how many more types the node may have
}

type typed struct {
	name string
	m    api.Type
}

// callable is a static parameter or an earlier node, with one of its signatures.
type callable struct {
	name string
	sig  ground
}

func newMaker(seed int64) *maker { return &maker{Rand: rand.New(rand.NewSource(seed))} }

func one[T any](m *maker, l []T) T { return l[m.Intn(len(l))] }

func (m *maker) anyType() api.Type { return one(m, m.j.universe) }

func (m *maker) program() api.Program {
	var p api.Program
	for i := range m.Intn(3) {
		e := api.Enum{Name: "t" + strconv.Itoa(i)}
		for c := range 1 + m.Intn(2) {
			e.Cons = append(e.Cons, "C"+strconv.Itoa(i)+strconv.Itoa(c))
		}
		p.Enums = append(p.Enums, e)
	}
	m.j = newJudge(p)
	for i := range 2 + m.Intn(4) {
		for !m.node("n" + strconv.Itoa(i)) {
		}
		m.j.p.Nodes = append(m.j.p.Nodes, m.n)
		m.j.node(m.n)
	}
	return clone(m.j.p)
}

// node draws a node, and reports whether it calls all of its static parameters.
func (m *maker) node(name string) bool {
	m.n, m.vars, m.j.funs = api.Node{Name: name}, nil, map[string]ground{}
	m.room = []int{0, 0, 9, 6, 5}[len(m.j.universe)]
	for i := range max(0, m.Intn(4)-1) {
		if m.room >= 5 { // enough for this one, an In and an item
			m.addFun("f" + strconv.Itoa(i))
		}
	}
	m.n.Ins = []string{m.variable("x", m.anyType())}
	if m.Intn(3) == 0 && m.room > 1 {
		m.n.Ins = append(m.n.Ins, m.variable("z", m.anyType()))
	}
	var right []func() api.Expr
	for m.room > 0 && (len(right) == 0 || m.Intn(5) > 0) {
		right = append(right, m.item())
	}
	for i, e := range right {
		m.n.Items[i].E = e()
	}
	defined := varsOf(m.n)[len(m.n.Ins):]
	m.Shuffle(len(defined), func(i, j int) { defined[i], defined[j] = defined[j], defined[i] })
	m.n.Outs = slices.Clone(defined[:1+m.Intn(min(2, len(defined)))])
	return !slices.ContainsFunc(m.n.Funs, func(f string) bool {
		_, ok := firstCall(m.n, f)
		return !ok
	})
}

func (m *maker) types(n int) []api.Type {
	var l []api.Type
	for range n {
		l = append(l, m.anyType())
	}
	m.room -= n
	return l
}

// addFun adds a static parameter, often with a signature for which something can be passed, or that something takes.
func (m *maker) addFun(name string) {
	counts := one(m, [][2]int{{1, 1}, {1, 1}, {2, 1}, {1, 2}})
	sig := ground{ins: m.types(counts[0]), outs: m.types(counts[1])}
	var known []ground
	for _, s := range slices.Concat(m.j.sigs...) {
		known = append(append(known, s.funs...), s)
	}
	known = slices.DeleteFunc(known, func(s ground) bool { return len(s.ins)+len(s.outs) > 3 || len(s.funs) > 0 })
	if len(known) > 0 && m.Intn(3) > 0 {
		m.room += len(sig.ins) + len(sig.outs)
		sig = one(m, known)
		m.room -= len(sig.ins) + len(sig.outs)
	}
	m.n.Funs = append(m.n.Funs, name)
	m.j.funs[name] = sig
}

// variable adds a variable whose name begins with s, and returns the name.
func (m *maker) variable(s string, t api.Type) string {
	name := s + strconv.Itoa(len(m.vars))
	m.vars = append(m.vars, typed{name, t})
	m.room--
	return name
}

// item adds an equation without its expression, and returns what draws that: when all variables are there.
func (m *maker) item() func() api.Expr {
	calls := slices.DeleteFunc(m.callables(), func(c callable) bool { return len(c.sig.outs) > m.room })
	m.n.Items = append(m.n.Items, api.Item{})
	names := &m.n.Items[len(m.n.Items)-1].Names
	if len(calls) == 0 || m.Intn(2) == 0 {
		t := m.anyType()
		*names = []string{m.variable("y", t)}
		return func() api.Expr { return m.expr(t, 3) }
	}
	c := m.oneCallable(calls)
	for _, t := range c.sig.outs {
		*names = append(*names, m.variable("y", t))
	}
	return func() api.Expr { return m.call(c, 3) }
}

// callables returns all that can be called, with each signature of it for which something can be passed.
func (m *maker) callables() []callable {
	var l []callable
	for _, f := range m.n.Funs {
		l = append(l, callable{f, m.j.funs[f]})
	}
	for k, n := range m.j.p.Nodes {
		for _, s := range m.j.sigs[k] {
			if !slices.ContainsFunc(s.funs, func(f ground) bool { return len(m.passable(f)) == 0 }) {
				l = append(l, callable{n.Name, s})
			}
		}
	}
	return l
}

// oneCallable draws one of l, every second time one to which something is passed.
func (m *maker) oneCallable(l []callable) callable {
	passing := slices.DeleteFunc(slices.Clone(l), func(c callable) bool { return len(c.sig.funs) == 0 })
	if len(passing) > 0 && m.Intn(2) == 0 {
		return one(m, passing)
	}
	return one(m, l)
}

// passable returns the names of what can be passed for a static parameter with this signature.
func (m *maker) passable(want ground) []string {
	var l []string
	for _, f := range m.n.Funs {
		if equal(m.j.funs[f], want) {
			l = append(l, f)
		}
	}
	for k, n := range m.j.p.Nodes {
		if len(n.Funs) == 0 && slices.ContainsFunc(m.j.sigs[k], func(s ground) bool { return equal(s, want) }) {
			l = append(l, n.Name)
		}
	}
	return l
}

func (m *maker) call(c callable, depth int) api.Expr {
	e := api.Expr{Op: api.Call, Name: c.name}
	for _, f := range c.sig.funs {
		e.Cons = append(e.Cons, one(m, m.passable(f)))
	}
	for _, t := range c.sig.ins {
		e.Kids = append(e.Kids, m.expr(t, depth-1))
	}
	if m.Intn(4) == 0 {
		e = api.Expr{Op: api.Every, Kids: []api.Expr{e, m.expr(api.TyBool, depth-1)}}
	}
	return e
}

func (m *maker) exprs(n int, t api.Type, depth int) []api.Expr {
	var l []api.Expr
	for range n {
		l = append(l, m.expr(t, depth))
	}
	return l
}

func (m *maker) expr(t api.Type, depth int) api.Expr {
	if depth <= 1 {
		return m.leaf(t)
	}
	switch op := api.Var + m.Intn(api.Call-api.Var+2); op {
	case api.Un, api.Bin:
		return m.operation(t, depth-1)
	case api.If:
		return api.Expr{Op: op, Kids: append(m.exprs(1, api.TyBool, depth-1), m.exprs(2, t, depth-1)...)}
	case api.Fby, api.Arrow:
		return api.Expr{Op: op, Kids: m.exprs(2, t, depth-1)}
	case api.Pre:
		return api.Expr{Op: op, Kids: m.exprs(1, t, depth-1)}
	case api.When, api.Merge:
		return m.sample(op, t, depth-1)
	case api.Call, api.Call + 1:
		calls := slices.DeleteFunc(m.callables(), func(c callable) bool { return !slices.Equal(c.sig.outs, []api.Type{t}) })
		if len(calls) > 0 {
			return m.call(m.oneCallable(calls), depth)
		}
	}
	return m.leaf(t)
}

// leaf draws a variable of type t, or, more seldom or if there is none, a constant.
func (m *maker) leaf(t api.Type) api.Expr {
	fits := slices.DeleteFunc(slices.Clone(m.vars), func(v typed) bool { return v.m != t })
	if len(fits) > 0 && m.Intn(4) > 0 {
		return api.Expr{Op: api.Var, Name: one(m, fits).name}
	}
	if t == api.TyInt {
		return api.Expr{Op: api.Int, N: int64(m.Intn(3))}
	}
	if t == api.TyBool && m.Intn(2) == 0 {
		return api.Expr{Op: api.Bool, N: int64(m.Intn(2))}
	}
	return api.Expr{Op: api.Con, Name: one(m, m.cons(t))}
}

func (m *maker) cons(t api.Type) []string {
	if t == api.TyBool {
		return []string{"False", "True"}
	}
	return slices.Clone(m.j.p.Enums[t-api.TyEnum].Cons)
}

func (m *maker) operation(t api.Type, depth int) api.Expr {
	binary := func(operand api.Type, names ...string) api.Expr {
		return api.Expr{Op: api.Bin, Name: one(m, names), Kids: m.exprs(2, operand, depth)}
	}
	switch {
	case t == api.TyInt && m.Intn(3) == 0:
		return api.Expr{Op: api.Un, Name: "-", Kids: m.exprs(1, t, depth)}
	case t == api.TyInt:
		return binary(t, "+", "-", "*", "/", "%")
	case t != api.TyBool:
		return m.leaf(t)
	}
	switch m.Intn(4) {
	case 0:
		return api.Expr{Op: api.Un, Name: "not", Kids: m.exprs(1, t, depth)}
	case 1:
		return binary(t, "and", "or")
	case 2:
		return binary(api.TyInt, "<", "<=")
	}
	return binary(m.anyType(), "=", "<>")
}

// sample draws a when or a merge, if there is a variable that has constructors.
func (m *maker) sample(op int, t api.Type, depth int) api.Expr {
	by := slices.DeleteFunc(slices.Clone(m.vars), func(v typed) bool { return v.m == api.TyInt })
	if len(by) == 0 {
		return m.leaf(t)
	}
	v := one(m, by)
	cons := m.cons(v.m)
	if op == api.When {
		cons = []string{one(m, cons)}
	}
	return api.Expr{Op: op, Name: v.name, Cons: cons, Kids: m.exprs(len(cons), t, depth)}
}

// mutant returns p with something changed in one node.
func (m *maker) mutant(p api.Program) api.Program {
	p = clone(p)
	m.n = p.Nodes[m.Intn(len(p.Nodes))]
	var exprs, calls, readers []*api.Expr
	for b := range m.n.Items {
		for _, e := range pointers(&m.n.Items[b].E) {
			exprs = append(exprs, e)
			switch e.Op {
			case api.Call:
				calls = append(calls, e)
			case api.Var, api.When, api.Merge:
				readers = append(readers, e)
			}
		}
	}
	switch m.Intn(10) {
	case 0, 1, 2:
		*one(m, exprs) = clone(*one(m, exprs))
	case 3, 4:
		m.vars = nil
		*one(m, exprs) = m.leaf(m.anyType())
	case 5, 6:
		if len(readers) > 0 {
			one(m, readers).Name = one(m, varsOf(m.n))
		}
	case 7, 8:
		if len(calls) > 0 {
			m.changeCall(p, one(m, calls))
		}
	default:
		m.changeItems(exprs)
	}
	return p
}

// pointers returns e and all expressions in it.
func pointers(e *api.Expr) []*api.Expr {
	l := []*api.Expr{e}
	for i := range e.Kids {
		l = append(l, pointers(&e.Kids[i])...)
	}
	return l
}

// changeCall changes what a call calls, what is passed to it, or how many kids it has.
func (m *maker) changeCall(p api.Program, e *api.Expr) {
	names := slices.Clone(m.n.Funs)
	for _, n := range p.Nodes {
		names = append(names, n.Name)
	}
	switch m.Intn(4) {
	case 0:
		e.Name = one(m, names)
	case 1:
		if len(m.n.Funs) > 0 {
			e.Name, e.Cons = one(m, m.n.Funs), nil
		}
	case 2:
		for i := range e.Cons {
			e.Cons[i] = one(m, names)
		}
	case 3:
		e.Kids = append(e.Kids, clone(e.Kids[0]))[m.Intn(2):]
	}
}

// changeItems changes the order of the items, or makes a match or an automaton of one.
func (m *maker) changeItems(exprs []*api.Expr) {
	l := m.n.Items
	i, j := m.Intn(len(l)), m.Intn(len(l))
	switch m.Intn(6) {
	case 0:
		if len(l[i].Names) == 1 {
			l[i] = api.Item{States: []api.State{{Name: "State", Eqs: []api.Eq{l[i].Eq}}}}
		}
	case 1:
		if e := one(m, exprs); e.Op == api.Merge {
			e.Op = api.Match
		}
	default:
		l[i], l[j] = l[j], l[i]
	}
}

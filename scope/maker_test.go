package scope_test

import (
	"math/rand"
	"slices"
	"strconv"

	"pendule/api"
)

// maker draws programs without faults.
type maker struct {
	*rand.Rand
	p      api.Program
	n      api.Node // the one that is drawn
	vars   []string
	states int
	sealed bool // whether no sample, merge or match may be drawn
}

func one[T any](m *maker, l []T) T { return l[m.Intn(len(l))] }

// numbered returns least to most names that begin with s.
func (m *maker) numbered(s string, least, most int) []string {
	var l []string
	for i := range least + m.Intn(most-least+1) {
		l = append(l, s+strconv.Itoa(i))
	}
	m.Shuffle(len(l), func(i, j int) { l[i], l[j] = l[j], l[i] })
	return l
}

func (m *maker) program() api.Program {
	m.p, m.states = api.Program{}, 0
	for i, s := range m.numbered("t", 0, 3) {
		m.p.Enums = append(m.p.Enums, api.Enum{Name: s, Cons: m.numbered("C"+strconv.Itoa(i)+"_", 1, 3)})
	}
	for _, s := range m.numbered("n", 1, 4) {
		m.p.Nodes = append(m.p.Nodes, m.node(s))
	}
	return clone(m.p)
}

func (m *maker) node(name string) api.Node {
	m.n = api.Node{Name: name, Funs: m.numbered("f", 0, 2), Ins: m.numbered("x", 1, 2)}
	defined := m.numbered("y", 1, 6)
	m.vars = slices.Concat(m.n.Ins, defined)
	m.n.Outs = slices.Clone(defined[:1+m.Intn(min(2, len(defined)))])
	m.Shuffle(len(defined), func(i, j int) { defined[i], defined[j] = defined[j], defined[i] })
	for len(defined) > 0 {
		n := 1 + m.Intn(min(3, len(defined)))
		m.n.Items = append(m.n.Items, m.item(defined[:n]))
		defined = defined[n:]
	}
	return m.n
}

// item draws an item that defines the names.
func (m *maker) item(names []string) api.Item {
	if m.Intn(3) == 0 {
		return m.automaton(names)
	}
	e, ok := m.call(len(names), 3)
	if !ok && len(names) > 1 {
		return m.automaton(names)
	}
	if !ok || len(names) == 1 && m.Intn(2) == 0 {
		e = m.expr(3)
	} else if m.Intn(2) == 0 {
		e = api.Expr{Op: api.Every, Kids: []api.Expr{e, m.expr(2)}}
	}
	return api.Item{Eq: api.Eq{Names: slices.Clone(names), E: e}}
}

func (m *maker) automaton(names []string) api.Item {
	m.sealed = true
	defer func() { m.sealed = false }()
	own := m.numbered("S"+strconv.Itoa(m.states)+"_", 1, 3)
	m.states++
	var i api.Item
	for _, s := range own {
		q := api.State{Name: s}
		for _, k := range m.Perm(len(names)) {
			q.Eqs = append(q.Eqs, api.Eq{Names: []string{names[k]}, E: m.expr(2)})
		}
		for range m.Intn(3) {
			q.Ways = append(q.Ways, api.Way{If: m.expr(2), To: one(m, own)})
		}
		i.States = append(i.States, q)
	}
	return i
}

func (m *maker) exprs(n, depth int) []api.Expr {
	var l []api.Expr
	for range n {
		l = append(l, m.expr(depth))
	}
	return l
}

func (m *maker) enum() []string {
	l := []api.Enum{{Cons: []string{"False", "True"}}}
	return one(m, append(l, m.p.Enums...)).Cons
}

func (m *maker) expr(depth int) api.Expr {
	op := api.Int + m.Intn(api.Every)
	if depth <= 1 {
		op = api.Int + m.Intn(api.Var)
	}
	if m.sealed && (op == api.When || op == api.Merge || op == api.Match) {
		op = api.Var
	}
	switch op {
	case api.Int, api.Bool:
		return api.Expr{Op: op, N: int64(m.Intn(2))}
	case api.Con:
		return api.Expr{Op: op, Name: one(m, m.enum())}
	case api.Un:
		return api.Expr{Op: op, Name: "-", Kids: m.exprs(1, depth-1)}
	case api.Bin:
		return api.Expr{Op: op, Name: "+", Kids: m.exprs(2, depth-1)}
	case api.If:
		return api.Expr{Op: op, Kids: m.exprs(3, depth-1)}
	case api.Fby, api.Arrow:
		return api.Expr{Op: op, Kids: m.exprs(2, depth-1)}
	case api.Pre:
		return api.Expr{Op: op, Kids: m.exprs(1, depth-1)}
	case api.When:
		return api.Expr{Op: op, Name: one(m, m.vars), Cons: []string{one(m, m.enum())}, Kids: m.exprs(1, depth-1)}
	case api.Merge, api.Match:
		return m.merge(op, depth)
	case api.Call, api.Every:
		e, ok := m.call(1, depth)
		if ok && op == api.Every {
			return api.Expr{Op: op, Kids: []api.Expr{e, m.expr(depth - 1)}}
		}
		if ok {
			return e
		}
	}
	return api.Expr{Op: api.Var, Name: one(m, m.vars)}
}

func (m *maker) merge(op, depth int) api.Expr {
	before := m.sealed
	m.sealed = before || op == api.Match
	defer func() { m.sealed = before }()
	l := m.enum()
	return api.Expr{Op: op, Name: one(m, m.vars), Cons: slices.Clone(l), Kids: m.exprs(len(l), depth-1)}
}

// call draws a call with so many results, if something can be called.
func (m *maker) call(results, depth int) (api.Expr, bool) {
	callees := m.p.Nodes
	for _, s := range m.n.Funs {
		callees = append(callees[:len(callees):len(callees)], api.Node{Name: s, Ins: make([]string, 1+m.Intn(2)), Outs: make([]string, results)})
	}
	static := slices.Clone(m.n.Funs)
	for _, n := range m.p.Nodes {
		if len(n.Funs) == 0 {
			static = append(static, n.Name)
		}
	}
	callees = slices.DeleteFunc(slices.Clone(callees), func(n api.Node) bool {
		return len(n.Outs) != results || len(n.Funs) > 0 && len(static) == 0
	})
	if len(callees) == 0 {
		return api.Expr{}, false
	}
	n := one(m, callees)
	e := api.Expr{Op: api.Call, Name: n.Name, Kids: m.exprs(len(n.Ins), depth-1)}
	for range n.Funs {
		e.Cons = append(e.Cons, one(m, static))
	}
	return e, true
}

// slots are the parts of a program that can be changed.
type slots struct {
	names, cons  []*string
	heads        []*string // those of the names that enums, nodes and static parameters have
	exprs, calls []*api.Expr
	lists        []func(m *maker) // each changes the length or the order of a list
}

// list notes a list, with the element that may be appended to it.
func list[T any](s *slots, l *[]T) {
	s.lists = append(s.lists, func(m *maker) {
		n := len(*l)
		if n == 0 {
			return
		}
		i, j := m.Intn(n), m.Intn(n)
		switch m.Intn(3) {
		case 0:
			*l = slices.Delete(*l, i, i+1)
		case 1:
			*l = slices.Insert(*l, i, clone((*l)[j]))
		case 2:
			(*l)[i], (*l)[j] = (*l)[j], (*l)[i]
		}
	})
}

func words(s *slots, to *[]*string, l *[]string) {
	list(s, l)
	for i := range *l {
		*to = append(*to, &(*l)[i])
	}
}

func slotsOf(p *api.Program) *slots {
	s := &slots{}
	list(s, &p.Enums)
	for i := range p.Enums {
		s.names, s.heads = append(s.names, &p.Enums[i].Name), append(s.heads, &p.Enums[i].Name)
		words(s, &s.cons, &p.Enums[i].Cons)
	}
	list(s, &p.Nodes)
	for k := range p.Nodes {
		n := &p.Nodes[k]
		s.names, s.heads = append(s.names, &n.Name), append(s.heads, &n.Name)
		for b := range n.Funs {
			s.heads = append(s.heads, &n.Funs[b])
		}
		for _, l := range []*[]string{&n.Funs, &n.Ins, &n.Outs} {
			words(s, &s.names, l)
		}
		list(s, &n.Items)
		for b := range n.Items {
			s.item(&n.Items[b])
		}
	}
	return s
}

func (s *slots) item(i *api.Item) {
	if len(i.States) == 0 {
		s.eq(&i.Eq)
		return
	}
	list(s, &i.States)
	for k := range i.States {
		q := &i.States[k]
		s.cons = append(s.cons, &q.Name)
		list(s, &q.Eqs)
		for b := range q.Eqs {
			s.eq(&q.Eqs[b])
		}
		list(s, &q.Ways)
		for b := range q.Ways {
			s.cons = append(s.cons, &q.Ways[b].To)
			s.expr(&q.Ways[b].If)
		}
	}
}

func (s *slots) eq(q *api.Eq) {
	words(s, &s.names, &q.Names)
	s.expr(&q.E)
}

func (s *slots) expr(e *api.Expr) {
	s.exprs = append(s.exprs, e)
	switch e.Op {
	case api.Con:
		s.cons = append(s.cons, &e.Name)
	case api.Var, api.When, api.Merge, api.Match, api.Call:
		s.names = append(s.names, &e.Name)
	}
	to := &s.cons
	if e.Op == api.Call {
		to = &s.names
		s.calls = append(s.calls, e)
	}
	words(s, to, &e.Cons)
	list(s, &e.Kids)
	for i := range e.Kids {
		s.expr(&e.Kids[i])
	}
}

// mutant returns p with one part changed.
func (m *maker) mutant(p api.Program) api.Program {
	p = clone(p)
	m.change(slotsOf(&p))
	return p
}

// change changes one part of a program.
func (m *maker) change(s *slots) {
	switch m.Intn(8) {
	case 0:
		replace(m, s.names, append(s.names, new("other")))
	case 1:
		replace(m, s.heads, s.heads)
	case 2:
		replace(m, s.cons, append(s.cons, new("True"), new("False"), new("Other")))
	case 3, 4, 5:
		if len(s.exprs) > 0 {
			*one(m, s.exprs) = clone(*one(m, s.exprs))
		}
	case 6:
		one(m, s.lists)(m)
	case 7:
		m.changeCall(s)
	}
}

func replace(m *maker, l, by []*string) {
	if len(l) > 0 {
		*one(m, l) = *one(m, by)
	}
}

// changeCall changes what a call calls, or what it is given.
func (m *maker) changeCall(s *slots) {
	if len(s.calls) == 0 || len(s.heads) == 0 {
		return
	}
	e := one(m, s.calls)
	switch m.Intn(4) {
	case 0:
		e.Name = *one(m, s.heads)
	case 1:
		e.Cons = append(e.Cons, *one(m, s.heads))
	case 2:
		e.Kids = append(e.Kids, clone(*one(m, s.exprs)))
	case 3:
		e.Cons, e.Kids = nil, e.Kids[:min(1, len(e.Kids))]
	}
}

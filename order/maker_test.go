package order_test

import (
	"math/rand"
	"slices"
	"strconv"
	"strings"

	"pendule/api"
)

// maker draws normal nodes and programs.
type maker struct {
	*rand.Rand
	vars []stream // of the node that is drawn
}

// stream is a variable of a program: a number or a boolean, with a clock.
type stream struct {
	name    string
	boolean bool
	clock   api.Clock
}

func newMaker(seed int64) *maker { return &maker{Rand: rand.New(rand.NewSource(seed))} }

func one[T any](m *maker, l []T) T { return l[m.Intn(len(l))] }

// some returns an element of l now and then, and otherwise its zero value.
func some[T any](m *maker, l ...T) T {
	if m.Intn(4) > 0 {
		var none T
		return none
	}
	return one(m, l)
}

// anyNode draws a node with so many equations of any sorts, which have few names, some of them none or several, or one that others have as well.
func (m *maker) anyNode(equations int) api.NNode {
	names := []string{"a", "b", "c", "d", "e", "f", "g", "h", ""}[:3+m.Intn(7)]
	n := api.NNode{Ins: []string{one(m, names)}}
	for range equations {
		q := api.NEq{Sort: 1 + m.Intn(4), Names: []string{one(m, names)}, Reset: some(m, names...)}
		if m.Intn(3) > 0 {
			q.E = m.anyExpr(names)
		}
		for m.Intn(6) == 0 {
			q.Names = append(q.Names, one(m, names))
		}
		for m.Intn(6) == 0 {
			q.Clock = append(q.Clock, api.Sample{Var: one(m, names), Con: some(m, "True", "A")})
		}
		switch m.Intn(20) {
		case 0:
			q.Sort = one(m, []int{0, 5, -1})
		case 1:
			q.Names = nil
		}
		n.Eqs = append(n.Eqs, q)
	}
	return n
}

// anyExpr draws an expression that has a few of these names in it.
func (m *maker) anyExpr(names []string) api.Expr {
	e := variable(one(m, names))
	for m.Intn(3) == 0 {
		e = api.Expr{Op: 1 + m.Intn(api.Mem), Name: one(m, names), Kids: []api.Expr{e}}
		if m.Intn(3) == 0 {
			e.Kids = append(e.Kids, variable(one(m, names)))
		}
	}
	return e
}

// program draws the text of a program whose last node has one item more than that. Each item reads variables that were added ahead of its own, and any others behind a delay. Now and then there is one that reads any others everywhere, so that a circle can be among them.
func (m *maker) program(items int) string {
	m.vars = []stream{{name: "x"}, {name: "c", boolean: true}, {name: "d", boolean: true}}
	wild := -1
	if m.Intn(3) == 0 {
		wild = m.Intn(items)
	}
	var later []func() string
	for b := range items {
		later = append(later, m.item(b == wild))
	}
	m.vars = append(m.vars, stream{name: "y"})
	last := place{limit: len(m.vars) - 1}
	l := []string{"y = " + m.expr(last, 3) + "; "}
	// Only now are all variables known that a delay may read.
	for _, f := range later {
		l = append(l, f())
	}
	m.Shuffle(len(l), func(i, j int) { l[i], l[j] = l[j], l[i] })
	return prelude + "node main (x, c, d) = (y) where " + strings.Join(l, "") + "end"
}

// prelude declares what the items of a program call.
const prelude = "node id (a) = (b) where b = a; end node swap (a, b) = (u, v) where u = 0 fby b; v = pre a; end "

// item adds one variable or two, and returns what draws their equation. That of a wild item may read all variables.
func (m *maker) item(wild bool) func() string {
	at := place{limit: len(m.vars), boolean: m.Intn(3) == 0}
	if by := m.fits(place{limit: at.limit, boolean: true}, true); m.Intn(2) == 0 {
		at.clock = m.sampled(one(m, by))
	}
	names := []string{m.add(at)}
	if !at.boolean && m.Intn(5) == 0 {
		names = append(names, m.add(at))
	}
	return func() string {
		if wild {
			at.limit = len(m.vars)
		}
		if len(names) > 1 {
			return "(" + strings.Join(names, ", ") + ") = " + m.call("swap", at, 2, 2) + "; "
		}
		return names[0] + " = " + m.expr(at, 3) + "; "
	}
}

func (m *maker) add(at place) string {
	name := "v" + strconv.Itoa(len(m.vars))
	m.vars = append(m.vars, stream{name, at.boolean, at.clock})
	return name
}

// sampled returns the clock of v with a sample of v.
func (m *maker) sampled(v stream) api.Clock {
	return append(slices.Clone(v.clock), api.Sample{Var: v.name, Con: one(m, []string{"False", "True"})})
}

// place is where an expression stands: what it has to be, and how many of the variables it may read.
type place struct {
	boolean bool
	clock   api.Clock
	limit   int
}

func (at place) of(boolean bool) place { return place{boolean, at.clock, at.limit} }

func (at place) on(c api.Clock) place { return place{at.boolean, c, at.limit} }

// fits returns the variables that can stand at a place, or those of any clocks.
func (m *maker) fits(at place, anyClock bool) []stream {
	return slices.DeleteFunc(slices.Clone(m.vars[:at.limit]), func(v stream) bool {
		return v.boolean != at.boolean || !anyClock && !slices.Equal(v.clock, at.clock)
	})
}

func (m *maker) delayed(at place) place { return place{at.boolean, at.clock, len(m.vars)} }

func (m *maker) call(name string, at place, kids, depth int) string {
	var l []string
	for range kids {
		l = append(l, m.expr(at, depth-1))
	}
	s := name + "(" + strings.Join(l, ", ") + ")"
	if m.Intn(2) == 0 {
		s = "(" + s + " every " + m.expr(at.of(true), depth-1) + ")"
	}
	return s
}

func (m *maker) expr(at place, depth int) string {
	if depth == 0 {
		return m.leaf(at)
	}
	depth--
	switch m.Intn(12) {
	case 0, 1:
		if at.boolean {
			return "(" + m.expr(at.of(false), depth) + " < " + m.expr(at.of(false), depth) + ")"
		}
		return "(" + m.expr(at, depth) + " + " + m.expr(at, depth) + ")"
	case 2:
		return "(if " + m.expr(at.of(true), depth) + " then " + m.expr(at, depth) + " else " + m.expr(at, depth) + ")"
	case 3, 4:
		return "(" + m.expr(at, depth) + " fby " + m.expr(m.delayed(at), depth) + ")"
	case 5:
		return "(pre " + m.expr(m.delayed(at), depth) + ")"
	case 6:
		return "(" + m.expr(at, depth) + " -> " + m.expr(at, depth) + ")"
	case 7, 8:
		return m.merge(at, depth)
	case 9:
		return m.call("id", at, 1, depth+1)
	case 10:
		return m.when(at, depth)
	}
	return m.leaf(at)
}

func (m *maker) merge(at place, depth int) string {
	l := m.fits(at.of(true), false)
	if len(l) == 0 {
		return m.leaf(at)
	}
	by := one(m, l)
	arm := func(con string) string {
		c := append(slices.Clone(by.clock), api.Sample{Var: by.name, Con: con})
		return con + " -> " + m.expr(at.on(c), depth)
	}
	return "merge " + by.name + " (" + arm("False") + " | " + arm("True") + ")"
}

func (m *maker) when(at place, depth int) string {
	last := len(at.clock) - 1
	if last < 0 {
		return m.leaf(at)
	}
	s := at.clock[last]
	return "(" + m.expr(at.on(at.clock[:last]), depth) + " when " + s.Con + "(" + s.Var + "))"
}

// leaf draws a variable, or one that is sampled, or a constant.
func (m *maker) leaf(at place) string {
	l := m.fits(at, false)
	switch {
	case len(l) > 0 && m.Intn(4) > 0:
		return one(m, l).name
	case len(at.clock) > 0 && m.Intn(2) == 0:
		return m.when(at, 0)
	case at.boolean:
		return one(m, []string{"true", "false"})
	}
	return strconv.Itoa(m.Intn(4))
}

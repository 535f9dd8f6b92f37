package normal

import (
	"slices"
	"strconv"

	"pendule/api"
)

// maker makes the normal node that is embedded in it. It begins with the variables that the node has already.
type maker struct {
	api.NNode
	clocks map[string]api.Clock // of those variables
	number int                  // the smallest one that no new variable was tried with
}

// nodeOf returns n normalized, where vars are its variables with their clocks.
func nodeOf(n api.Node, vars []api.Named) api.NNode {
	m := maker{clocks: map[string]api.Clock{}}
	m.Name, m.Ins, m.Outs = n.Name, slices.Clone(n.Ins), slices.Clone(n.Outs)
	for _, v := range vars {
		m.clocks[v.Name] = v.Clock
		m.addVar(v.Name, v.Clock)
	}
	for _, i := range n.Items {
		m.addItem(i.Eq)
	}
	return m.NNode
}

func (m *maker) addVar(name string, c api.Clock) {
	m.Vars = append(m.Vars, api.Named{Name: name, Clock: slices.Clone(c)})
}

// addNew adds a variable that the node does not have yet, and returns its name.
func (m *maker) addNew(c api.Clock) string {
	for {
		name := "_v" + strconv.Itoa(m.number)
		m.number++
		if _, ok := m.clocks[name]; !ok {
			m.addVar(name, c)
			return name
		}
	}
}

// addItem adds the equations that q becomes.
func (m *maker) addItem(q api.Eq) {
	c := m.clocks[q.Names[0]]
	switch q.E.Op {
	case api.Merge:
		m.addMerge(q.E, c, q.Names...)
	case api.Call:
		m.addCall(q.E, c, q.Names...)
	case api.Every:
		m.addEvery(q.E, c, q.Names...)
	default:
		m.addExp(m.pure(q.E, c), c, q.Names...)
	}
}

// add adds the equation q with these names and the clock c, and returns the first name as an expression. If there are no names, it has a new one.
func (m *maker) add(q api.NEq, c api.Clock, names ...string) api.Expr {
	if len(names) == 0 {
		names = []string{m.addNew(c)}
	}
	q.Names, q.Clock = slices.Clone(names), slices.Clone(c)
	m.Eqs = append(m.Eqs, q)
	return api.Expr{Op: api.Var, Name: names[0]}
}

// addExp adds the equation of a pure expression.
func (m *maker) addExp(pure api.Expr, c api.Clock, names ...string) api.Expr {
	return m.add(api.NEq{Sort: api.NExp, E: pure}, c, names...)
}

// addFlag adds the equation of what is true at the first instant of c only.
func (m *maker) addFlag(c api.Clock) api.Expr {
	return m.add(api.NEq{Sort: api.NFlag}, c)
}

// addMem adds the equation of what a variable was at the previous instant of c.
func (m *maker) addMem(variable api.Expr, c api.Clock) api.Expr {
	return m.add(api.NEq{Sort: api.NMem, E: variable}, c)
}

// addMerge adds the equation of a Merge with pure kids.
func (m *maker) addMerge(e api.Expr, c api.Clock, names ...string) api.Expr {
	made := bare(e)
	for i, k := range e.Kids {
		made.Kids = append(made.Kids, m.pure(k, on(c, e.Name, e.Cons[i])))
	}
	return m.addExp(made, c, names...)
}

// addCall adds the equation of a Call with pure kids.
func (m *maker) addCall(e api.Expr, c api.Clock, names ...string) api.Expr {
	return m.add(api.NEq{Sort: api.NCall, E: m.pureKids(e, c)}, c, names...)
}

// addEvery adds the equation of the call in an Every, behind that of a variable for its reset.
func (m *maker) addEvery(e api.Expr, c api.Clock, names ...string) api.Expr {
	call := m.pureKids(e.Kids[0], c)
	reset := m.addExp(m.pure(e.Kids[1], c), c)
	return m.add(api.NEq{Sort: api.NCall, E: call, Reset: reset.Name}, c, names...)
}

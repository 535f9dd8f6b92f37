package normal_test

import (
	"slices"

	"pendule/api"
	"pendule/scope"
	"pendule/word"
)

// player executes normal nodes by what the sorts of their equations mean: at each instant all cells are Unknown at first, and the equations are gone through in any order until there is no more of them to be known.
type player struct {
	p     api.Program
	nodes []api.NNode
}

// memory is what an instance of a node remembers: of each equation whether its clock had an instant, what its NMem holds, and what its NCall's callee remembers.
type memory struct {
	begun map[int]bool
	held  map[int]api.Cell
	calls map[int]*memory
}

func newMemory() *memory {
	return &memory{map[int]bool{}, map[int]api.Cell{}, map[int]*memory{}}
}

// outs returns the cells of the Outs of a node for each row of its Ins.
func (y player) outs(node string, script [][]int64) [][]api.Cell {
	m := newMemory()
	var l [][]api.Cell
	for _, row := range script {
		var ins []api.Cell
		for _, n := range row {
			ins = append(ins, api.Cell{Kind: api.Value, N: n})
		}
		l = append(l, y.instant(node, ins, m))
	}
	return l
}

// moment is the cells of a node at an instant, as far as they are known.
type moment struct {
	player
	n     api.NNode
	cells map[string]api.Cell
}

func (y player) instant(node string, ins []api.Cell, m *memory) []api.Cell {
	n := y.nodes[slices.IndexFunc(y.nodes, func(n api.NNode) bool { return n.Name == node })]
	now := moment{y, n, map[string]api.Cell{}}
	for i, v := range n.Ins {
		now.cells[v] = ins[i]
	}
	for known := -1; known < len(now.cells); {
		known = len(now.cells)
		for i := len(n.Eqs) - 1; i >= 0; i-- {
			now.equation(i, m)
		}
	}
	for i, q := range n.Eqs {
		if now.present(q.Clock).Kind == api.Value {
			m.begun[i] = true
			if q.Sort == api.NMem {
				m.held[i] = now.cells[q.E.Name]
			}
		}
	}
	var l []api.Cell
	for _, v := range n.Outs {
		l = append(l, now.cells[v])
	}
	return l
}

// present returns the Value 1 where a clock is, Absent where it is not, or an Unknown.
func (now moment) present(c api.Clock) api.Cell {
	for _, s := range c {
		switch by := now.cells[s.Var]; {
		case by.Kind == api.Unknown:
			return by
		case by.Kind != api.Value || by.N != now.constructor(s.Con):
			return api.Cell{Kind: api.Absent}
		}
	}
	return api.Cell{Kind: api.Value, N: 1}
}

func (now moment) constructor(name string) int64 {
	_, i, _ := scope.Con(now.p, name)
	return int64(i)
}

// equation sets the cells of the names of an equation, if they can be known and are not yet.
func (now moment) equation(i int, m *memory) {
	q := now.n.Eqs[i]
	there := now.present(q.Clock)
	if _, done := now.cells[q.Names[0]]; done || there.Kind == api.Unknown {
		return
	}
	cells := slices.Repeat([]api.Cell{there}, len(q.Names))
	if there.Kind == api.Value {
		switch q.Sort {
		case api.NExp:
			cells[0] = now.value(q.E)
		case api.NFlag:
			if m.begun[i] {
				cells[0].N = 0
			}
		case api.NMem:
			cells[0] = api.Cell{Kind: api.Nil}
			if m.begun[i] {
				cells[0] = m.held[i]
			}
		case api.NCall:
			cells = now.called(i, m)
		}
	}
	for r, c := range cells {
		if c.Kind != api.Unknown {
			now.cells[q.Names[r]] = c
		}
	}
}

// called returns the results of a call, or none if its kids or its reset are not known.
func (now moment) called(i int, m *memory) []api.Cell {
	q := now.n.Eqs[i]
	var ins []api.Cell
	for _, k := range q.E.Kids {
		ins = append(ins, now.value(k))
	}
	reset, asked := now.cells[q.Reset]
	if slices.Contains(ins, api.Cell{}) || q.Reset != "" && !asked {
		return nil
	}
	if m.calls[i] == nil || reset.Kind == api.Value && reset.N != 0 {
		m.calls[i] = newMemory()
	}
	return now.instant(q.E.Name, ins, m.calls[i])
}

// value returns the cell of a pure expression, where it is present.
func (now moment) value(e api.Expr) api.Cell {
	switch e.Op {
	case api.Int, api.Bool:
		return api.Cell{Kind: api.Value, N: e.N}
	case api.Con:
		return api.Cell{Kind: api.Value, N: now.constructor(e.Name)}
	case api.Var:
		return now.cells[e.Name]
	case api.When:
		return now.value(e.Kids[0])
	case api.If:
		return now.chosen(now.value(e.Kids[0]), e.Kids[1], e.Kids[2])
	case api.Merge:
		by := now.cells[e.Name]
		for i, con := range e.Cons {
			if by.Kind == api.Value && by.N == now.constructor(con) {
				return now.value(e.Kids[i])
			}
		}
		return api.Cell{Kind: by.Kind}
	}
	return now.operated(e)
}

func (now moment) chosen(c api.Cell, yes, no api.Expr) api.Cell {
	switch {
	case c.Kind != api.Value:
		return api.Cell{Kind: c.Kind}
	case c.N != 0:
		return now.value(yes)
	}
	return now.value(no)
}

func (now moment) operated(e api.Expr) api.Cell {
	var l []api.Cell
	for _, k := range e.Kids {
		l = append(l, now.value(k))
	}
	for _, kind := range []int{api.Unknown, api.Absent, api.Nil} {
		if slices.Contains(l, api.Cell{Kind: kind}) {
			return api.Cell{Kind: kind}
		}
	}
	var n int64
	var err api.Errno
	switch e.Op {
	case api.Un:
		n, err = word.Un(e.Name, l[0].N)
	case api.Bin:
		n, err = word.Bin(e.Name, l[0].N, l[1].N)
	default:
		panic("not pure: " + show(e))
	}
	if err != api.OK {
		panic("no operator " + e.Name)
	}
	return api.Cell{Kind: api.Value, N: n}
}

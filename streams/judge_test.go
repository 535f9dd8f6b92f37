package streams_test

import (
	"math/big"
	"slices"

	"pendule/api"
	"pendule/cause"
	"pendule/clocks"
	"pendule/types"
	"pendule/word"
)

// judge finds whole streams, of a node with no memory and in no order: it begins with cells that are Unknown, and goes through all equations, all instants of each, until there is no more of them to be known.
type judge struct {
	p      api.Program
	clocks [][]api.Named
}

type stream = []api.Cell

// judgeOf returns the judge of a program that has clocks.
func judgeOf(p api.Program) judge {
	l, f := clocks.Infer(p)
	if f != (api.Fault{}) {
		panic("no clocks")
	}
	return judge{p, l}
}

func (j judge) nodeNamed(name string) int {
	return slices.IndexFunc(j.p.Nodes, func(n api.Node) bool { return n.Name == name })
}

// outs returns the cells of the Outs of a node for each row of its Ins.
func (j judge) outs(node string, script [][]int64) [][]api.Cell {
	k := j.nodeNamed(node)
	ins := make([]stream, len(j.p.Nodes[k].Ins))
	for _, row := range script {
		for i, n := range row {
			ins[i] = append(ins[i], api.Cell{Kind: api.Value, N: n})
		}
	}
	rows := make([][]api.Cell, len(script))
	for _, s := range j.node(k, ins, len(script)) {
		for t, c := range s {
			rows[t] = append(rows[t], c)
		}
	}
	return rows
}

// scene is a node, with its variables as far as they are known, over so many instants.
type scene struct {
	judge
	vars   map[string]stream
	length int
}

// node returns the streams of the Outs of the node k, from its beginning on, for those of its Ins.
func (j judge) node(k int, ins []stream, length int) []stream {
	n, s := j.p.Nodes[k], scene{j, map[string]stream{}, length}
	clockOf := map[string]api.Clock{}
	for _, v := range j.clocks[k] {
		s.vars[v.Name], clockOf[v.Name] = make(stream, length), v.Clock
	}
	for i, v := range n.Ins {
		s.vars[v] = ins[i]
	}
	for known := -1; known < s.known(); {
		known = s.known()
		for _, i := range n.Items {
			for r, cells := range s.results(i.E, len(i.Names), s.at(clockOf[i.Names[0]])) {
				s.vars[i.Names[r]] = cells
			}
		}
	}
	var l []stream
	for _, v := range n.Outs {
		l = append(l, s.vars[v])
	}
	return l
}

// known returns how many cells are known.
func (s scene) known() int {
	n := 0
	for _, cells := range s.vars {
		for _, c := range cells {
			if c.Kind != api.Unknown {
				n++
			}
		}
	}
	return n
}

// Where something is present is a list of kinds, one for each instant: Unknown, Absent, or Value where it is present.
func (s scene) everywhere() []int { return slices.Repeat([]int{api.Value}, s.length) }

func (s scene) at(c api.Clock) []int {
	there := s.everywhere()
	for _, x := range c {
		there = s.on(there, x.Var, x.Con)
	}
	return there
}

// on returns where of there the variable x has the constructor con.
func (s scene) on(there []int, x, con string) []int {
	l := slices.Clone(there)
	for t, c := range s.vars[x] {
		switch {
		case there[t] != api.Value:
		case c.Kind == api.Unknown:
			l[t] = api.Unknown
		case c.Kind != api.Value || c.N != s.constructor(con):
			l[t] = api.Absent
		}
	}
	return l
}

func (s scene) constructor(name string) int64 {
	switch name {
	case "False":
		return 0
	case "True":
		return 1
	}
	for _, e := range s.p.Enums {
		if i := slices.Index(e.Cons, name); i >= 0 {
			return int64(i)
		}
	}
	panic("no constructor " + name)
}

// kid returns where the kid i of e is present.
func (s scene) kid(e api.Expr, i int, there []int) []int {
	switch e.Op {
	case api.When:
		there = s.everywhere()
		for t, c := range s.vars[e.Name] {
			if c.Kind == api.Unknown || c.Kind == api.Absent {
				there[t] = c.Kind
			}
		}
	case api.Merge:
		return s.on(there, e.Name, e.Cons[i])
	}
	return there
}

// results returns the n streams of e.
func (s scene) results(e api.Expr, n int, there []int) []stream {
	switch e.Op {
	case api.Call:
		return s.call(e, n, there, make(stream, 0))
	case api.Every:
		return s.call(e.Kids[0], n, there, s.one(e.Kids[1], there))
	}
	return []stream{s.one(e, there)}
}

// one returns the only stream of e.
func (s scene) one(e api.Expr, there []int) stream {
	var l stream
	switch e.Op {
	case api.Call, api.Every:
		return s.results(e, 1, there)[0]
	case api.Fby, api.Pre, api.Arrow:
		l = s.delayed(e, there)
	default:
		var kids []stream
		for i, k := range e.Kids {
			kids = append(kids, s.one(k, s.kid(e, i, there)))
		}
		for t := range s.length {
			l = append(l, s.cell(e, t, kids))
		}
	}
	for t, kind := range there {
		if kind != api.Value {
			l[t] = api.Cell{Kind: kind}
		}
	}
	return l
}

// delayed returns the stream of a Fby, a Pre or an Arrow: nothing is known of it from the instant on of which it is not known whether it is present.
func (s scene) delayed(e api.Expr, there []int) stream {
	l := make(stream, s.length)
	first, next := s.one(e.Kids[0], there), s.one(e.Kids[len(e.Kids)-1], there)
	before := -1 // the instant at which it was last present
	for t, kind := range there {
		switch {
		case kind == api.Unknown:
			return l
		case kind == api.Absent:
			continue
		case before >= 0 && e.Op == api.Arrow:
			l[t] = next[t]
		case before >= 0:
			l[t] = next[before]
		case e.Op == api.Pre:
			l[t] = api.Cell{Kind: api.Nil}
		default:
			l[t] = first[t]
		}
		before = t
	}
	return l
}

// cell returns the cell at the instant t of an expression without memory, if it is present.
func (s scene) cell(e api.Expr, t int, kids []stream) api.Cell {
	var l []api.Cell
	for _, k := range kids {
		l = append(l, k[t])
	}
	switch e.Op {
	case api.Int, api.Bool:
		return api.Cell{Kind: api.Value, N: e.N}
	case api.Con:
		return api.Cell{Kind: api.Value, N: s.constructor(e.Name)}
	case api.Var:
		return s.vars[e.Name][t]
	case api.When:
		return l[0]
	case api.If:
		return chosen(l[0], slices.Clone(l[1:]))
	case api.Merge:
		by := s.vars[e.Name][t]
		for i, con := range e.Cons {
			if by.Kind == api.Value && by.N == s.constructor(con) {
				return l[i]
			}
		}
		return api.Cell{Kind: by.Kind}
	}
	return operated(e.Name, l)
}

// chosen returns what an If yields.
func chosen(c api.Cell, l []api.Cell) api.Cell {
	switch {
	case c.Kind != api.Value:
		return api.Cell{Kind: c.Kind}
	case c.N != 0:
		return l[0]
	}
	return l[1]
}

// operated returns what an operator yields: what is Absent here is not asked for.
func operated(operator string, l []api.Cell) api.Cell {
	for _, kind := range []int{api.Unknown, api.Absent, api.Nil} {
		if slices.Contains(l, api.Cell{Kind: kind}) {
			return api.Cell{Kind: kind}
		}
	}
	var n int64
	var err api.Errno
	switch len(l) {
	case 1:
		n, err = word.Un(operator, l[0].N)
	case 2:
		n, err = word.Bin(operator, l[0].N, l[1].N)
	}
	if err != api.OK {
		panic("no operator " + operator)
	}
	return api.Cell{Kind: api.Value, N: n}
}

// call returns the n streams of a call. What the callee does between two resets it does from its beginning on.
func (s scene) call(e api.Expr, n int, there []int, reset stream) []stream {
	k := s.nodeNamed(e.Name)
	var ins []stream
	for _, a := range e.Kids {
		ins = append(ins, s.one(a, there))
	}
	outs := make([]stream, n)
	for i := range outs {
		outs[i] = make(stream, s.length)
	}
	var since []int // the instants since the last reset
	end := func() {
		for i, cells := range s.node(k, picked(ins, since), len(since)) {
			for at, t := range since {
				outs[i][t] = cells[at]
			}
		}
		since = nil
	}
	for t, kind := range there {
		if kind == api.Absent {
			for _, cells := range outs {
				cells[t] = api.Cell{Kind: api.Absent}
			}
			continue
		}
		if kind == api.Unknown || len(reset) > 0 && reset[t].Kind == api.Unknown {
			break
		}
		if len(reset) > 0 && reset[t].Kind == api.Value && reset[t].N != 0 {
			end()
		}
		since = append(since, t)
	}
	end()
	return outs
}

// picked returns the cells of the streams at these instants.
func picked(l []stream, instants []int) []stream {
	var some []stream
	for _, cells := range l {
		s := stream{}
		for _, t := range instants {
			s = append(s, cells[t])
		}
		some = append(some, s)
	}
	return some
}

// weight counts the node k and all that is called in it, over and over.
func (j judge) weight(k int) *big.Int {
	l := []*big.Int{}
	for _, n := range j.p.Nodes[:k+1] {
		sum := big.NewInt(1)
		for _, e := range exprsOf(&n) {
			if e.Op == api.Call {
				sum.Add(sum, l[j.nodeNamed(e.Name)])
			}
		}
		l = append(l, sum)
	}
	return l[k]
}

// judgedFault returns the fault that stands against playing a node of p.
func judgedFault(p api.Program, node string) api.Fault {
	if _, f := types.Infer(p); f.Err != api.OK {
		return f
	}
	for _, n := range p.Nodes {
		if len(n.Funs) > 0 {
			return api.Fault{Err: api.ErrArg}
		}
	}
	j := judge{p: p}
	k := j.nodeNamed(node)
	if k < 0 {
		return api.Fault{Err: api.ErrIndex}
	}
	if j.weight(k).Cmp(big.NewInt(1000)) > 0 {
		return api.Fault{Err: api.ErrBound}
	}
	if _, f := clocks.Infer(p); f.Err != api.OK {
		return f
	}
	return cause.Check(p)
}

// pointers returns e and all expressions in it.
func pointers(e *api.Expr) []*api.Expr {
	l := []*api.Expr{e}
	for i := range e.Kids {
		l = append(l, pointers(&e.Kids[i])...)
	}
	return l
}

// exprsOf returns all expressions in the equations of n.
func exprsOf(n *api.Node) []*api.Expr {
	var l []*api.Expr
	for b := range n.Items {
		l = append(l, pointers(&n.Items[b].E)...)
	}
	return l
}

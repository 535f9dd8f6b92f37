package streams

import (
	"slices"

	"pendule/api"
)

// instant is an instant of a node that takes place.
type instant struct {
	memory *memory
	vars   []api.Cell // those of the variables that are known already
	later  []put
}

// put is the kid that a Fby or a Pre is to remember, with where to put its cell. It is put off until all variables are known.
type put struct {
	entry   *delay
	kid     *term
	present bool
}

// play plays an instant with these cells of the Ins, and returns those of the Outs.
func (p *plan) play(m *memory, ins []api.Cell) []api.Cell {
	i := &instant{memory: m, vars: make([]api.Cell, p.vars)}
	copy(i.vars, ins)
	for _, q := range p.equations {
		for k, c := range i.results(q.e, i.presentAt(q.clock)) {
			i.vars[q.vars[k]] = c
		}
	}
	i.remember()
	var l []api.Cell
	for _, v := range p.outs {
		l = append(l, i.vars[v])
	}
	return l
}

// presentAt reports whether what has this clock is present.
func (i *instant) presentAt(clock []sample) bool {
	return !slices.ContainsFunc(clock, func(s sample) bool { return !i.has(s.variable, s.value) })
}

// has reports whether the variable is the Value n.
func (i *instant) has(variable int, n int64) bool { return i.vars[variable] == value(n) }

// remember puts into the memory what was put off. That may have delays in turn.
func (i *instant) remember() {
	for len(i.later) > 0 {
		last := len(i.later) - 1
		l := i.later[last]
		i.later = i.later[:last]
		if c := i.cell(l.kid, l.present); l.present {
			*l.entry = delay{begun: true, last: c}
		}
	}
}

// results returns the cells of e, which is present or not. What is not present has kids that may be, behind a When.
func (i *instant) results(e *term, present bool) []api.Cell {
	switch e.op {
	case api.Call:
		return i.call(e, present, false)
	case api.Every:
		reset := i.cell(e.kids[1], present)
		return i.call(e.kids[0], present, isTrue(reset))
	}
	return []api.Cell{i.cell(e, present)}
}

// cell returns the cell of e, which has one result.
func (i *instant) cell(e *term, present bool) api.Cell {
	if e.op == api.Call || e.op == api.Every {
		return i.results(e, present)[0]
	}
	kids := i.kids(e, present)
	if !present {
		return absent()
	}
	return i.combine(e, kids)
}

// call returns the results of a call, whose callee has an instant if the call is present.
func (i *instant) call(e *term, present, reset bool) []api.Cell {
	ins := i.kids(e, present)
	if !present {
		return slices.Repeat([]api.Cell{absent()}, len(e.callee.outs))
	}
	m := &i.memory.calls[e.entry]
	if *m == nil || reset {
		*m = newMemory(e.callee)
	}
	return e.callee.play(*m, ins)
}

// kids returns the cells of the kids of e, but for the one that a Fby or a Pre delays, which is put off.
func (i *instant) kids(e *term, present bool) []api.Cell {
	var l []api.Cell
	for k, kid := range e.kids {
		if e.op == api.Pre || e.op == api.Fby && k == 1 {
			i.later = append(i.later, put{&i.memory.delays[e.entry], kid, present})
		} else {
			l = append(l, i.cell(kid, i.kidPresent(e, k, present)))
		}
	}
	return l
}

// kidPresent reports whether the kid k of e is present.
func (i *instant) kidPresent(e *term, k int, present bool) bool {
	switch e.op {
	case api.When:
		return i.vars[e.variable] != absent()
	case api.Merge:
		return present && i.has(e.variable, int64(k))
	}
	return present
}

// combine returns the cell of e, which is present and no call, given those of its kids.
func (i *instant) combine(e *term, kids []api.Cell) api.Cell {
	switch e.op {
	case api.Int, api.Bool, api.Con:
		return value(e.value)
	case api.Var:
		return i.vars[e.variable]
	case api.Un, api.Bin:
		return operation(e.operator, kids)
	case api.If:
		return choice(kids)
	case api.Fby:
		return i.memory.delays[e.entry].after(kids[0])
	case api.Pre:
		return i.memory.delays[e.entry].after(undefined())
	case api.Arrow:
		return i.arrow(e, kids)
	case api.Merge:
		return i.merge(e, kids)
	}
	return kids[0]
}

// arrow returns the cell of an Arrow, whose entry nothing else reads at this instant.
func (i *instant) arrow(e *term, kids []api.Cell) api.Cell {
	d := &i.memory.delays[e.entry]
	if d.begun {
		return kids[1]
	}
	d.begun = true
	return kids[0]
}

func (i *instant) merge(e *term, kids []api.Cell) api.Cell {
	by := i.vars[e.variable]
	if by == undefined() {
		return undefined()
	}
	return kids[by.N]
}

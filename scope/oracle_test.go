package scope_test

import (
	"slices"
	"strings"

	"pendule/api"
	"pendule/tree"
)

// judge goes through all conditions of the chapter in their order, each by itself and by search in the lists of the program, and keeps the first one that does not hold.
type judge struct {
	p     api.Program
	fault api.Fault
	rule  string // the condition that does not hold
}

// judged returns the fault of p by the chapter, and the condition that is broken.
func judged(p api.Program, made bool) (api.Fault, string) {
	if err := tree.Right(p, made); err != api.OK {
		return api.Fault{Err: err}, "tree"
	}
	j := &judge{p: p}
	for i := range p.Enums {
		j.enum(i)
	}
	for k := range p.Nodes {
		j.head(k)
		for b := range p.Nodes[k].Items {
			j.item(k, b)
		}
		for _, out := range p.Nodes[k].Outs {
			j.need(k, -1, "out", slices.Contains(itemNames(p.Nodes[k].Items), out))
		}
		for b, i := range p.Nodes[k].Items {
			for _, s := range spotsOf(i) {
				j.spot(k, b, s)
			}
		}
	}
	return j.fault, j.rule
}

func (j *judge) need(a, b int, rule string, holds bool) {
	if !holds && j.rule == "" {
		j.fault, j.rule = scopeFault(a, b), rule
	}
}

func count(l []string, s string) int {
	n := 0
	for _, x := range l {
		if x == s {
			n++
		}
	}
	return n
}

func once(l []string) bool {
	return !slices.ContainsFunc(l, func(s string) bool { return count(l, s) > 1 })
}

func (j *judge) enum(i int) {
	e := j.p.Enums[i]
	for _, earlier := range j.p.Enums[:i] {
		j.need(-1, i, "enum twice", earlier.Name != e.Name)
		for _, c := range e.Cons {
			j.need(-1, i, "constructor of an earlier enum", !slices.Contains(earlier.Cons, c))
		}
	}
	j.need(-1, i, "boolean", !slices.Contains(e.Cons, "False") && !slices.Contains(e.Cons, "True"))
	j.need(-1, i, "constructor twice", once(e.Cons))
}

func (j *judge) head(k int) {
	n := j.p.Nodes[k]
	j.need(k, -1, "parameters twice", once(slices.Concat(n.Funs, n.Ins)))
	j.need(k, -1, "outs twice", once(n.Outs))
	j.need(k, -1, "fun named like its node", !slices.Contains(n.Funs, n.Name))
	for _, earlier := range j.p.Nodes[:k] {
		j.need(k, -1, "node twice", earlier.Name != n.Name)
		j.need(k, -1, "fun named like a node", !slices.Contains(n.Funs, earlier.Name))
	}
}

func itemNames(l []api.Item) []string {
	var names []string
	for _, i := range l {
		eqs := []api.Eq{i.Eq}
		if len(i.States) > 0 {
			eqs = i.States[0].Eqs
		}
		for _, q := range eqs {
			names = append(names, q.Names...)
		}
	}
	return names
}

func (j *judge) item(k, b int) {
	n := j.p.Nodes[k]
	i := n.Items[b]
	names := itemNames(n.Items[b : b+1])
	for _, s := range names {
		j.need(k, b, "in defined", !slices.Contains(n.Ins, s))
		j.need(k, b, "defined earlier", !slices.Contains(itemNames(n.Items[:b]), s))
	}
	j.need(k, b, "defined twice", once(names))
	if len(i.States) == 0 {
		j.need(k, b, "several names", len(i.Names) < 2 || i.E.Op == api.Call || i.E.Op == api.Every)
		return
	}
	j.states(k, b, i.States)
}

func (j *judge) states(k, b int, l []api.State) {
	var own, cons []string
	for _, s := range l {
		own = append(own, s.Name)
	}
	for _, e := range j.types() {
		cons = append(cons, e.Cons...)
	}
	j.need(k, b, "state twice", once(own))
	for _, s := range l {
		j.need(k, b, "state named like a constructor", !slices.Contains(cons, s.Name))
		j.need(k, b, "state of an earlier automaton", !slices.Contains(j.earlierStates(k, b), s.Name))
		var names []string
		for _, q := range s.Eqs {
			j.need(k, b, "several names in a state", len(q.Names) == 1)
			names = append(names, q.Names...)
		}
		first := itemNames([]api.Item{{States: l}})
		slices.Sort(names)
		slices.Sort(first)
		j.need(k, b, "names of states", slices.Equal(names, first))
		for _, w := range s.Ways {
			j.need(k, b, "transition", slices.Contains(own, w.To))
		}
	}
}

// types returns the enums, and one for the booleans.
func (j *judge) types() []api.Enum {
	return append(slices.Clone(j.p.Enums), api.Enum{Cons: []string{"False", "True"}})
}

func (j *judge) earlierStates(k, b int) []string {
	var names []string
	for m, n := range j.p.Nodes[:k+1] {
		for c, i := range n.Items {
			if m == k && c >= b {
				break
			}
			for _, s := range i.States {
				names = append(names, s.Name)
			}
		}
	}
	return names
}

// spot is an expression, at any depth, and what is around it.
type spot struct {
	e              api.Expr
	results        int
	state, inMatch bool
}

func spotsOf(i api.Item) []spot {
	if len(i.States) == 0 {
		return below(spot{e: i.E, results: len(i.Names)})
	}
	var l []spot
	for _, s := range i.States {
		for _, q := range s.Eqs {
			l = append(l, below(spot{e: q.E, results: len(q.Names), state: true})...)
		}
		for _, w := range s.Ways {
			l = append(l, below(spot{e: w.If, results: 1, state: true})...)
		}
	}
	return l
}

func below(s spot) []spot {
	l := []spot{s}
	for i, k := range s.e.Kids {
		results := 1
		if i == 0 && s.e.Op == api.Every {
			results = s.results
		}
		l = append(l, below(spot{k, results, s.state, s.inMatch || s.e.Op == api.Match})...)
	}
	return l
}

func (j *judge) spot(k, b int, s spot) {
	n, e := j.p.Nodes[k], s.e
	vars := slices.Concat(n.Ins, itemNames(n.Items))
	reads := e.Op == api.Var || e.Op == api.When || e.Op == api.Merge || e.Op == api.Match
	j.need(k, b, "variable", !reads || slices.Contains(vars, e.Name))
	isCon := func(c string) bool {
		return slices.ContainsFunc(j.types(), func(t api.Enum) bool { return slices.Contains(t.Cons, c) })
	}
	switch e.Op {
	case api.Con:
		j.need(k, b, "constructor", isCon(e.Name))
	case api.When:
		j.need(k, b, "constructor of a when", isCon(e.Cons[0]))
	case api.Merge, api.Match:
		j.need(k, b, "constructors of a merge", slices.ContainsFunc(j.types(), func(t api.Enum) bool { return strings.Join(t.Cons, " ") == strings.Join(e.Cons, " ") }))
	case api.Call:
		j.call(k, b, s)
	}
	if e.Op == api.When || e.Op == api.Merge || e.Op == api.Match {
		j.need(k, b, "sample in a state", !s.state)
		j.need(k, b, "sample in a match", !s.inMatch)
	}
}

func (j *judge) call(k, b int, s spot) {
	n, e := j.p.Nodes[k], s.e
	if slices.Contains(n.Funs, e.Name) {
		j.need(k, b, "static arguments of a fun", len(e.Cons) == 0)
		return
	}
	callee := slices.IndexFunc(j.p.Nodes, func(m api.Node) bool { return m.Name == e.Name })
	if callee < 0 || callee >= k {
		j.need(k, b, "callee", false)
		return
	}
	m := j.p.Nodes[callee]
	j.need(k, b, "arguments", len(m.Ins) == len(e.Kids))
	j.need(k, b, "static arguments", len(m.Funs) == len(e.Cons))
	j.need(k, b, "results", len(m.Outs) == s.results)
	for _, a := range e.Cons {
		isNode := slices.ContainsFunc(j.p.Nodes[:k], func(m api.Node) bool { return m.Name == a && len(m.Funs) == 0 })
		j.need(k, b, "static argument", isNode || slices.Contains(n.Funs, a))
	}
}

// rules are all conditions of the chapter.
func rules() []string {
	return []string{"tree", "enum twice", "constructor of an earlier enum", "boolean", "constructor twice",
		"parameters twice", "outs twice", "fun named like its node", "node twice", "fun named like a node",
		"in defined", "defined earlier", "defined twice", "several names", "state twice", "state named like a constructor", "state of an earlier automaton",
		"several names in a state", "names of states", "transition", "out", "variable", "constructor", "constructor of a when", "constructors of a merge",
		"sample in a state", "sample in a match", "static arguments of a fun", "callee", "arguments", "static arguments", "results", "static argument"}
}

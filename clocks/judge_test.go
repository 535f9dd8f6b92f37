package clocks_test

import (
	"slices"
	"strconv"

	"pendule/api"
	"pendule/types"
)

// path is a clock as a text, so that it can be compared and be a key: its samples in quotes, each with a / behind it.
type path string

func (c path) with(x, con string) path {
	return c + path(strconv.Quote(x)+strconv.Quote(con)+"/")
}

func pathOf(c api.Clock) path {
	var l path
	for _, s := range c {
		l = l.with(s.Var, s.Con)
	}
	return l
}

// clocked is what a judge finds of an expression: a path; any, if every one will do; or wrong, if none will.
type clocked struct {
	c          path
	any, wrong bool
}

// judgeExpr reads the rules from the leaves up, given the paths of the variables.
func judgeExpr(vars map[string]path, e api.Expr) clocked {
	by, known := vars[e.Name]
	switch e.Op {
	case api.Int, api.Bool, api.Con:
		return clocked{any: true}
	case api.Var:
		return clocked{c: by, wrong: !known}
	case api.Un, api.Bin, api.If, api.Fby, api.Pre, api.Arrow, api.Call, api.Every:
		all := clocked{any: true}
		for _, k := range e.Kids {
			all = both(all, judgeExpr(vars, k))
		}
		return all
	case api.When:
		if len(e.Kids) == 0 || len(e.Cons) == 0 {
			return clocked{wrong: true}
		}
		kid := both(judgeExpr(vars, e.Kids[0]), clocked{c: by})
		return clocked{c: by.with(e.Name, e.Cons[0]), wrong: !known || kid.wrong}
	case api.Merge:
		if len(e.Cons) < len(e.Kids) {
			return clocked{wrong: true}
		}
		all := clocked{c: by, wrong: !known}
		for i, k := range e.Kids {
			all.wrong = all.wrong || both(judgeExpr(vars, k), clocked{c: by.with(e.Name, e.Cons[i])}).wrong
		}
		return all
	}
	return clocked{wrong: true}
}

// both returns what has the clock of a and that of b.
func both(a, b clocked) clocked {
	switch {
	case a.wrong || b.wrong || !a.any && !b.any && a.c != b.c:
		return clocked{wrong: true}
	case a.any:
		return b
	}
	return a
}

func judgeFits(vars map[string]path, e api.Expr, c path) bool {
	found := judgeExpr(vars, e)
	return !found.wrong && (found.any || found.c == c)
}

// judgeItem reports whether an equation is right, given the paths of the variables.
func judgeItem(vars map[string]path, q api.Eq) bool {
	c := vars[q.Names[0]]
	return judgeFits(vars, q.E, c) && !slices.ContainsFunc(q.Names, func(v string) bool { return vars[v] != c })
}

func varsOf(n api.Node) []string {
	l := slices.Clone(n.Ins)
	for _, i := range n.Items {
		l = append(l, i.Names...)
	}
	return l
}

// below returns e and all expressions in it.
func below(e api.Expr) []api.Expr {
	l := []api.Expr{e}
	for _, k := range e.Kids {
		l = append(l, below(k)...)
	}
	return l
}

// samplesOf returns the samples that n writes, each once. A clock that has others is none that the rules determine.
func samplesOf(n api.Node) []api.Sample {
	var l []api.Sample
	for _, i := range n.Items {
		for _, e := range below(i.E) {
			for _, con := range e.Cons {
				s := api.Sample{Var: e.Name, Con: con}
				if (e.Op == api.When || e.Op == api.Merge) && !slices.Contains(l, s) {
					l = append(l, s)
				}
			}
		}
	}
	return l
}

// most is the greatest number of ways to give clocks to a node that are tried.
const most = 3000

// judgeNode tries all clocks of the variables of n: for each of them, the base clock or a sample of n to end with. It returns the paths of the variables with the shortest clocks of all that satisfy the rules, and the index of the first item that none reaches the end of. It returns false if there are too many to try.
func judgeNode(n api.Node) (map[string]path, int, bool) {
	samples := samplesOf(n)
	var locals []string
	total := 1
	for _, v := range varsOf(n)[len(n.Ins):] {
		if !slices.Contains(n.Outs, v) {
			locals = append(locals, v)
			total = min(total*(len(samples)+1), most+1)
		}
	}
	if total > most {
		return nil, 0, false
	}
	var right []map[string]path
	reached := 0
	ends := make([]int, len(locals))
	for more := true; more; more = next(ends, len(samples)+1) {
		vars, ok := pathsBy(n, locals, samples, ends)
		if !ok {
			continue
		}
		b := slices.IndexFunc(n.Items, func(i api.Item) bool { return !judgeItem(vars, i.Eq) })
		if b < 0 {
			right = append(right, vars)
			b = len(n.Items)
		}
		reached = max(reached, b)
	}
	return shortest(right), reached, true
}

// next counts l up by one, as a number of digits below base, and reports whether it did not come back to zero.
func next(l []int, base int) bool {
	for i := range l {
		if l[i]++; l[i] < base {
			return true
		}
		l[i] = 0
	}
	return false
}

// pathsBy returns the paths of all variables of n if the clocks of the locals end with these samples (0: none), and false if that goes in a circle.
func pathsBy(n api.Node, locals []string, samples []api.Sample, ends []int) (map[string]path, bool) {
	vars := map[string]path{}
	for _, v := range slices.Concat(n.Ins, n.Outs) {
		vars[v] = ""
	}
	for range locals {
		for i, v := range locals {
			if ends[i] == 0 {
				vars[v] = ""
				continue
			}
			s := samples[ends[i]-1]
			if c, ok := vars[s.Var]; ok {
				vars[v] = c.with(s.Var, s.Con)
			}
		}
	}
	// Without a circle, the paths are as long as they get now.
	for i, v := range locals {
		c, ok := vars[v]
		if !ok || ends[i] > 0 && c != vars[samples[ends[i]-1].Var].with(samples[ends[i]-1].Var, samples[ends[i]-1].Con) {
			return nil, false
		}
	}
	return vars, true
}

// shortest returns the one of l in which each variable has its shortest path, or nil if there is none.
func shortest(l []map[string]path) map[string]path {
	least := map[string]int{}
	for _, vars := range l {
		for v, c := range vars {
			if n, ok := least[v]; !ok || len(c) < n {
				least[v] = len(c)
			}
		}
	}
	i := slices.IndexFunc(l, func(vars map[string]path) bool {
		for v, c := range vars {
			if len(c) > least[v] {
				return false
			}
		}
		return true
	})
	if i < 0 {
		return nil
	}
	return l[i]
}

// judged returns the fault of p by the chapter, and the paths of the variables of each node; and false if there is too much to try.
func judged(p api.Program) (api.Fault, []map[string]path, bool) {
	if _, f := types.Infer(p); f.Err != api.OK && f.Err != api.ErrType {
		return f, nil, true
	}
	var all []map[string]path
	for k, n := range p.Nodes {
		vars, b, ok := judgeNode(n)
		if !ok {
			return api.Fault{}, nil, false
		}
		if b < len(n.Items) {
			return clockFault(k, b), nil, true
		}
		all = append(all, vars)
	}
	return api.Fault{}, all, true
}

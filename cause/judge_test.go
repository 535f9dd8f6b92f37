package cause_test

import (
	"slices"

	"pendule/api"
	"pendule/scope"
)

// relation tells of each name which names it waits for.
type relation map[string]map[string]bool

// below returns e and all expressions in it.
func below(e api.Expr) []api.Expr {
	l := []api.Expr{e}
	for _, k := range e.Kids {
		l = append(l, below(k)...)
	}
	return l
}

// spots returns the names in e, as often as they are there, each with whether it is read: whether no delay stands over it.
func spots(e api.Expr, read bool) (names []string, reads []bool) {
	if slices.Contains([]int{api.Var, api.When, api.Merge}, e.Op) {
		names, reads = []string{e.Name}, []bool{read}
	}
	for i, k := range e.Kids {
		delayed := e.Op == api.Pre || e.Op == api.Fby && i > 0
		n, r := spots(k, read && !delayed)
		names, reads = append(names, n...), append(reads, r...)
	}
	return names, reads
}

// readBy returns the names that e reads, in order, by the places where they are.
func readBy(e api.Expr) []string {
	var l []string
	names, reads := spots(e, true)
	for i, v := range names {
		if reads[i] && !slices.Contains(l, v) {
			l = append(l, v)
		}
	}
	return l
}

// definedBy returns the names that an item defines.
func definedBy(i api.Item) []string {
	if len(i.States) == 0 {
		return i.Names
	}
	var l []string
	for _, q := range i.States[0].Eqs {
		l = append(l, q.Names...)
	}
	return l
}

// waiting returns what each variable of a plain node waits for: what its item reads, and then whatever that waits for, until there is no more.
func waiting(n api.Node) relation {
	r := relation{}
	for _, i := range n.Items {
		for _, v := range i.Names {
			r[v] = map[string]bool{}
			for _, w := range readBy(i.E) {
				r[v][w] = true
			}
		}
	}
	for middle := range r {
		for v := range r {
			if !r[v][middle] {
				continue
			}
			for w := range r[middle] {
				r[v][w] = true
			}
		}
	}
	return r
}

// judgedFault returns the fault of p.
func judgedFault(p api.Program) api.Fault {
	if f := scope.Check(p, true); f.Err != api.OK {
		return f
	}
	if !isPlain(p) {
		return api.Fault{Err: api.ErrArg}
	}
	for k, n := range p.Nodes {
		r := waiting(n)
		for b, i := range n.Items {
			if slices.ContainsFunc(i.Names, func(v string) bool { return r[v][v] }) {
				return causeFault(k, b)
			}
		}
	}
	return api.Fault{}
}

// isPlain tells whether there is no automaton and no match in p.
func isPlain(p api.Program) bool {
	for _, n := range p.Nodes {
		for _, i := range n.Items {
			if len(i.States) > 0 || slices.ContainsFunc(below(i.E), func(e api.Expr) bool { return e.Op == api.Match }) {
				return false
			}
		}
	}
	return true
}

// definer returns the first item that defines a name, or -1.
func definer(n api.Node, name string) int {
	return slices.IndexFunc(n.Items, func(i api.Item) bool { return slices.Contains(definedBy(i), name) })
}

// fits tells whether l has each item of n once, behind those that define what it reads.
func fits(n api.Node, l []int) bool {
	for b := range n.Items {
		if len(l) != len(n.Items) || !slices.Contains(l, b) {
			return false
		}
	}
	for at, b := range l {
		for _, v := range readBy(n.Items[b].E) {
			if d := definer(n, v); d >= 0 && !slices.Contains(l[:at], d) {
				return false
			}
		}
	}
	return true
}

// least returns the first of all arrangements of the items of n, by the indices from the first place on, that fits; nil if none does.
func least(n api.Node, begun []int) []int {
	if len(begun) == len(n.Items) {
		if fits(n, begun) {
			return append([]int{}, begun...)
		}
		return nil
	}
	for b := range n.Items {
		if slices.Contains(begun, b) {
			continue
		}
		if l := least(n, append(slices.Clone(begun), b)); l != nil {
			return l
		}
	}
	return nil
}

// placed looks, for each place, for the smallest index that can stand there: another way to the same order, which is no longer for more items.
func placed(n api.Node) []int {
	l := []int{}
	for range n.Items {
		next := -1
		for b := len(n.Items) - 1; b >= 0; b-- {
			free := !slices.Contains(l, b)
			for _, v := range readBy(n.Items[b].E) {
				d := definer(n, v)
				free = free && (d < 0 || slices.Contains(l, d))
			}
			if free {
				next = b
			}
		}
		if next < 0 {
			return nil
		}
		l = append(l, next)
	}
	return l
}

package normal_test

import (
	"encoding/json"
	"slices"
	"strings"
	"testing"

	"pendule/api"
	"pendule/normal"
	"pendule/parse"
	"pendule/tree"
)

// program returns the program of a text, which must be well-formed.
func program(t *testing.T, text string) api.Program {
	t.Helper()
	p, f := parse.Parse(text)
	if f != (api.Fault{}) {
		t.Fatalf("Parse(%q): fault %v", text, f)
	}
	return p
}

// made returns the normal nodes of p, which must have no fault, and holds the judge to them.
func made(t *testing.T, p api.Program) []api.NNode {
	t.Helper()
	l, f := normal.Make(p)
	if f != (api.Fault{}) || len(l) != len(p.Nodes) {
		t.Fatalf("Make(%s): %d nodes, fault %v", text(p), len(l), f)
	}
	if err := judged(p, l); err != nil {
		t.Fatalf("Make(%s): %s, which the judge refuses: %v", text(p), showNodes(l), err)
	}
	return l
}

// prelude declares what the tests of items use.
const prelude = "type colour = Red | Green | Blue; type one = One; " +
	"node id (a) = (b) where b = a; end " +
	"node swap (a, b) = (u, v) where u = b; v = a; end "

// inNode returns the text of a program whose last node is main, with the Ins x, c and d, and the Out y.
func inNode(items string) string {
	return prelude + "node main (x, c, d) = (y) where " + items + " end"
}

// checkItems holds the equations, and the new variables, of a node with these items.
func checkItems(t *testing.T, items, want string) {
	t.Helper()
	p := program(t, inNode(items))
	checkLast(t, p, want)
}

// checkLast holds the equations, and the new variables, of the last node of p.
func checkLast(t *testing.T, p api.Program, want string) {
	t.Helper()
	l := made(t, p)
	n, source := l[len(l)-1], p.Nodes[len(p.Nodes)-1]
	old := len(varsOf(source))
	if got := showEqs(n); got != want {
		t.Errorf("%s\n%s, want\n%s", text(p), got, want)
	}
	var fresh []string
	for _, q := range n.Eqs {
		for _, name := range q.Names {
			if !slices.Contains(varsOf(source), name) {
				fresh = append(fresh, name+showClock(q.Clock))
			}
		}
	}
	var vars []string
	for _, v := range n.Vars[old:] {
		vars = append(vars, v.Name+showClock(v.Clock))
	}
	if !slices.Equal(fresh, vars) {
		t.Errorf("%s: the new variables are %v, but those of the equations %v", text(p), vars, fresh)
	}
}

// A normal equation is written as its names, its clock if that is not the base clock, and what they are.
func showEq(q api.NEq) string {
	used := api.NEq{Sort: q.Sort, Names: q.Names, Clock: q.Clock}
	s := strings.Join(q.Names, ", ") + showClock(q.Clock)
	switch q.Sort {
	case api.NExp:
		used.E = q.E
		s += " = " + tree.Show(q.E)
	case api.NFlag:
		s += " flag"
	case api.NMem:
		used.E = q.E
		s += " memory " + tree.Show(q.E)
	case api.NCall:
		used.E, used.Reset = q.E, q.Reset
		s += " call " + tree.Show(q.E)
		if q.Reset != "" {
			s += " reset " + q.Reset
		}
	}
	if show(used) != show(q) {
		return "not normal: " + show(q)
	}
	return s
}

func showClock(c api.Clock) string {
	s := ""
	for _, x := range c {
		s += " @" + x.Var + "=" + x.Con
	}
	return s
}

func showEqs(n api.NNode) string {
	var l []string
	for _, q := range n.Eqs {
		l = append(l, showEq(q))
	}
	return strings.Join(l, "\n")
}

func showVars(l []api.Named) string {
	var s []string
	for _, v := range l {
		s = append(s, v.Name+showClock(v.Clock))
	}
	return strings.Join(s, ", ")
}

func showNodes(l []api.NNode) string {
	s := ""
	for _, n := range l {
		s += "\nnode " + n.Name + list(" (", n.Ins, ")") + list(" = (", n.Outs, ")") + " with " + showVars(n.Vars) + "\n" + showEqs(n)
	}
	return s
}

func checkProgramFault(t *testing.T, what string, p api.Program, want api.Fault) {
	t.Helper()
	if l, f := normal.Make(p); f != want || len(l) > 0 {
		t.Errorf("Make(%s): %s, fault %v, want %v", what, showNodes(l), f, want)
	}
}

func checkFault(t *testing.T, want api.Fault, texts ...string) {
	t.Helper()
	for _, s := range texts {
		checkProgramFault(t, s, program(t, s), want)
	}
}

// varsOf returns the parameters of n, and then what its items define.
func varsOf(n api.Node) []string {
	l := slices.Clone(n.Ins)
	for _, i := range n.Items {
		l = append(l, i.Names...)
	}
	return l
}

// pointers returns e and all expressions in it.
func pointers(e *api.Expr) []*api.Expr {
	l := []*api.Expr{e}
	for i := range e.Kids {
		l = append(l, pointers(&e.Kids[i])...)
	}
	return l
}

// exprsOf returns all expressions in the equations of n.
func exprsOf(n *api.Node) []*api.Expr {
	var l []*api.Expr
	for b := range n.Items {
		l = append(l, pointers(&n.Items[b].E)...)
	}
	return l
}

// text writes a program as a source text is, whatever its names are.
func text(p api.Program) string {
	s := ""
	for _, e := range p.Enums {
		s += "type " + e.Name + " = " + strings.Join(e.Cons, " | ") + "; "
	}
	for _, n := range p.Nodes {
		s += "node " + n.Name + " "
		if len(n.Funs) > 0 {
			s += list("[", n.Funs, "] ")
		}
		s += list("(", n.Ins, ") = ") + list("(", n.Outs, ") where ")
		for _, i := range n.Items {
			if len(i.States) > 0 {
				s += "automaton " + show(i.States) + " "
			}
			s += list("(", i.Names, ") = ") + tree.Show(i.E) + "; "
		}
		s += "end "
	}
	return s
}

func list(begin string, l []string, end string) string { return begin + strings.Join(l, ", ") + end }

// clone returns a copy of x that shares no memory with it.
func clone[T any](x T) T {
	var c T
	if err := json.Unmarshal([]byte(show(x)), &c); err != nil {
		panic(err)
	}
	return c
}

// show writes all of x.
func show(x any) string {
	b, err := json.Marshal(x)
	if err != nil {
		panic(err)
	}
	return string(b)
}

package scope_test

import (
	"slices"
	"testing"

	"pendule/api"
	"pendule/scope"
)

func checkCon(t *testing.T, p api.Program, name string, enum, index int, ok bool) {
	t.Helper()
	if i, j, k := scope.Con(p, name); i != enum || j != index || k != ok {
		t.Errorf("Con(%q) = %d, %d, %t, want %d, %d, %t", name, i, j, k, enum, index, ok)
	}
}

// P5.1: constructors and where they are.
func TestCon(t *testing.T) {
	p := program(t, inNode(everything))
	checkCon(t, p, "Red", 0, 0, true)
	checkCon(t, p, "Green", 0, 1, true)
	checkCon(t, p, "Blue", 0, 2, true)
	checkCon(t, p, "One", 1, 0, true)
	for _, q := range []api.Program{p, {}} {
		checkCon(t, q, "False", -1, 0, true)
		checkCon(t, q, "True", -1, 1, true)
		for _, s := range []string{"", "A", "B", "red", "RED", "_Red", "_True", "false", "true", "colour", "one", "f", "x", "Red ", "Re", "Redd"} {
			checkCon(t, q, s, 0, 0, false)
		}
	}
	checkCon(t, api.Program{}, "Red", 0, 0, false)
}

// P5.1: in a program with faults the first place of a constructor counts; the booleans belong to no enum.
func TestConOfWrongPrograms(t *testing.T) {
	p := api.Program{Enums: []api.Enum{{}, {Name: "t", Cons: []string{"A", "b", "A", ""}}, {Name: "t", Cons: []string{"C", "A", "C", "True", "False", "_D"}}}}
	checkCon(t, p, "A", 1, 0, true)
	checkCon(t, p, "b", 1, 1, true)
	checkCon(t, p, "", 1, 3, true)
	checkCon(t, p, "C", 2, 0, true)
	checkCon(t, p, "_D", 2, 5, true)
	checkCon(t, p, "True", -1, 1, true)
	checkCon(t, p, "False", -1, 0, true)
	checkCon(t, p, "t", 0, 0, false)
}

func checkNode(t *testing.T, p api.Program, name string, index int, ok bool) {
	t.Helper()
	if k, b := scope.Node(p, name); k != index || b != ok {
		t.Errorf("Node(%q) = %d, %t, want %d, %t", name, k, b, index, ok)
	}
}

// P5.1: nodes and where they are.
func TestNode(t *testing.T) {
	p := program(t, inNode(everything))
	for k, s := range []string{"two", "inc", "twice", "f"} {
		checkNode(t, p, s, k, true)
	}
	for _, s := range []string{"", "g", "h", "x", "y", "colour", "Red", "_f", "F", "tw", "twos"} {
		checkNode(t, p, s, 0, false)
	}
	checkNode(t, api.Program{}, "", 0, false)
	checkNode(t, api.Program{}, "f", 0, false)
	wrong := api.Program{Nodes: []api.Node{{Name: "f"}, {Name: ""}, {Name: "G"}, {Name: "G"}, {Name: "f"}, {}}}
	checkNode(t, wrong, "f", 0, true)
	checkNode(t, wrong, "", 1, true)
	checkNode(t, wrong, "G", 2, true)
	checkNode(t, wrong, "h", 0, false)
}

func checkVars(t *testing.T, n api.Node, want ...string) {
	t.Helper()
	if got := scope.Vars(n); !slices.Equal(got, want) {
		t.Errorf("Vars(%v) = %q, want %q", n, got, want)
	}
}

// P5.1: the variables of a node, in order.
func TestVars(t *testing.T) {
	p := program(t, inNode(everything))
	checkVars(t, p.Nodes[0], "a", "b", "c", "d")
	checkVars(t, p.Nodes[2], "a", "b")
	checkVars(t, p.Nodes[last], "x", "c", "y", "z", "a", "b", "d", "e", "i")
	checkVars(t, program(t, "node f (c, a) = (b) where end").Nodes[0], "c", "a")
	checkVars(t, program(t, "node f (x) = (y) where automaton state A: state B: b = 1; end; automaton state A: z = 1; a = 1; state B: b = 1; end; end").Nodes[0], "x", "z", "a")
}

// P5.1: nodes that are wrong have variables, too: each as often as it is there.
func TestVarsOfWrongNodes(t *testing.T) {
	eq := func(names ...string) api.Eq { return api.Eq{Names: names} }
	checkVars(t, api.Node{})
	checkVars(t, api.Node{Name: "f", Funs: []string{"g"}, Outs: []string{"y"}})
	checkVars(t, api.Node{Items: []api.Item{{Eq: eq("b", "", "b")}, {}, {Eq: eq("A", "b")}}}, "b", "", "b", "A", "b")
	checkVars(t, api.Node{Ins: []string{"x", "x"}, Items: []api.Item{{Eq: eq("x")}}}, "x", "x", "x")
	states := []api.State{{Name: "S", Eqs: []api.Eq{eq("c", "d"), eq(), eq("c")}}, {Name: "T", Eqs: []api.Eq{eq("e")}}}
	checkVars(t, api.Node{Ins: []string{"x"}, Items: []api.Item{{States: states}, {Eq: eq("f")}}}, "x", "c", "d", "c", "f")
	checkVars(t, api.Node{Ins: []string{"x"}, Items: []api.Item{{Eq: eq("y"), States: states}, {Eq: eq("y"), States: []api.State{{}}}}}, "x", "c", "d", "c")
}

// R4: the variables are new memory, and the arguments stay as they are.
func TestMemory(t *testing.T) {
	p := program(t, inNode(everything))
	n := &p.Nodes[last]
	n.Ins = append(make([]string, 0, 100), n.Ins...)
	before := clone(p)
	first, again := scope.Vars(*n), scope.Vars(*n)
	for _, l := range [][]string{first, again} {
		for i := range l[:cap(l)] {
			l[:cap(l)][i] = "changed"
		}
	}
	checkVars(t, *n, "x", "c", "y", "z", "a", "b", "d", "e", "i")
	if spare := n.Ins[:cap(n.Ins)]; slices.Contains(spare, "changed") || spare[2] != "" {
		t.Errorf("Vars shares memory with the Ins: %q", spare)
	}
	first = scope.Vars(*n)
	again = scope.Vars(*n)
	clear(first)
	if slices.Contains(again, "") {
		t.Error("two results of Vars share memory")
	}
	for _, made := range []bool{false, true} {
		scope.Check(p, made)
	}
	scope.Con(p, "One")
	scope.Node(p, "f")
	if !same(p, before) {
		t.Error("a program is changed")
	}
}

package scope_test

import (
	"math/rand"
	"testing"

	"pendule/api"
	"pendule/scope"
	"pendule/tree"
)

func same(a, b api.Program) bool { return tree.Same(a, b) }

func newMaker(seed int64) *maker { return &maker{Rand: rand.New(rand.NewSource(seed))} }

// checkJudged holds the faults of p against the conditions of the chapter, and returns the one that is broken.
func checkJudged(t *testing.T, p api.Program) string {
	t.Helper()
	before := clone(p)
	rule := ""
	for _, made := range []bool{false, true} {
		want, broken := judged(p, made)
		if got := scope.Check(p, made); got != want {
			t.Fatalf("Check(%v, %t) = %v, want %v: %s", p, made, got, want, broken)
		}
		rule = broken
	}
	if !same(p, before) {
		t.Fatalf("%v is changed", before)
	}
	return rule
}

// P5.1: programs without a fault, and programs with a part changed, have the faults that the conditions of the chapter give them, one by one.
func TestConditions(t *testing.T) {
	m := newMaker(1)
	broken := map[string]int{}
	for range 1200 {
		p := m.program()
		if rule := checkJudged(t, p); rule != "" {
			t.Fatalf("%v is drawn with a fault: %s", p, rule)
		}
		for range 5 {
			q := m.mutant(p)
			broken[checkJudged(t, q)]++
			checkJudged(t, generated(q))
		}
	}
	for _, rule := range append(rules(), "") {
		if broken[rule] < 5 {
			t.Errorf("the condition %q was broken %d times only", rule, broken[rule])
		}
	}
}

// P5.2: if a program has no fault, none of its beginnings has one.
func TestFirstNodes(t *testing.T) {
	m := newMaker(2)
	longer := 0
	for range 1000 {
		p := m.program()
		for range 4 {
			for _, made := range []bool{false, true} {
				if scope.Check(p, made) != (api.Fault{}) {
					continue
				}
				for n := 1; n < len(p.Nodes); n++ {
					longer++
					if f := scope.Check(api.Program{Enums: p.Enums, Nodes: p.Nodes[:n]}, made); f != (api.Fault{}) {
						t.Fatalf("the first %d nodes of %v have the fault %v", n, p, f)
					}
				}
			}
			p = m.mutant(p)
		}
	}
	if longer < 2000 {
		t.Errorf("%d beginnings only", longer)
	}
	everyPart := program(t, inNode(everything))
	for n := 1; n <= len(everyPart.Nodes); n++ {
		if f := scope.Check(api.Program{Enums: everyPart.Enums, Nodes: everyPart.Nodes[:n]}, false); f != (api.Fault{}) {
			t.Errorf("the first %d nodes have the fault %v", n, f)
		}
	}
}

// P5.1: what the functions that look names up return is what the lists of a program say, for programs with and without faults.
func TestLookups(t *testing.T) {
	m := newMaker(3)
	for range 1000 {
		p := m.program()
		for range 3 {
			checkLookups(t, p)
			p = m.mutant(p)
		}
	}
}

func checkLookups(t *testing.T, p api.Program) {
	t.Helper()
	for _, e := range p.Enums {
		for _, c := range e.Cons {
			enum, index := firstCon(p, c)
			checkCon(t, p, c, enum, index, true)
		}
	}
	for _, n := range p.Nodes {
		first := 0
		for p.Nodes[first].Name != n.Name {
			first++
		}
		checkNode(t, p, n.Name, first, true)
		checkVars(t, n, append(append([]string{}, n.Ins...), itemNames(n.Items)...)...)
	}
}

func firstCon(p api.Program, c string) (int, int) {
	switch c {
	case "False":
		return -1, 0
	case "True":
		return -1, 1
	}
	for i, e := range p.Enums {
		for j, d := range e.Cons {
			if c == d {
				return i, j
			}
		}
	}
	panic("no constructor " + c)
}

// W0: programs of any trees have a result.
func TestNoise(t *testing.T) {
	m := newMaker(4)
	for range 300 {
		p := m.program()
		for range 20 {
			m.change(slotsOf(&p))
			if s := slotsOf(&p); len(s.exprs) > 0 {
				one(m, s.exprs).Op += m.Intn(3) - 1
			}
		}
		checkJudged(t, p)
		checkLookups(t, p)
	}
}

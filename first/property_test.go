package first_test

import (
	"slices"
	"strconv"
	"testing"

	"pendule/api"
	"pendule/first"
	"pendule/types"
)

// most is the number of variables up to which all sets of them are tried.
const most = 10

// openOf returns the open variables of a node, by reached, and by smallest too if there are not too many variables.
func openOf(t *testing.T, p api.Program) func(judge) set {
	return func(j judge) set {
		t.Helper()
		s := j.reached()
		if len(j.vars) <= most {
			if small, ok := j.smallest(); !ok || small != s {
				t.Fatalf("%b of %q is the smallest set, and %b is reached, in %s", small, j.vars, s, show(p))
			}
		}
		return s
	}
}

// checkJudged holds what Infer returns of p against what the judge finds, and returns a word for that.
func checkJudged(t *testing.T, p api.Program) string {
	t.Helper()
	want, fault := judged(p, openOf(t, p))
	before := show(p)
	l, got := first.Infer(p)
	if got != fault || len(l) != len(want) {
		t.Fatalf("Infer(%s): fault %v and %v, want %v", before, got, l, fault)
	}
	if show(p) != before {
		t.Fatalf("%s is changed", before)
	}
	for k, open := range l {
		j := judgeOf(p.Nodes[k])
		if len(open) != len(j.vars) {
			t.Fatalf("Infer(%s): %v for the variables %q", before, open, j.vars)
		}
		for i, v := range j.vars {
			if open[i] != (want[k]&j.bit(v) != 0) {
				t.Fatalf("Infer(%s): %s in the node %d is open: %v", before, v, k, open[i])
			}
		}
	}
	switch {
	case fault.Err == api.ErrInit && fault.B > 0:
		return "later item"
	case fault.Err == api.ErrInit && fault.B == 0:
		return "first item"
	case fault.Err == api.ErrInit:
		return "only an Out"
	case fault.Err == api.ErrArg:
		return "sugar"
	case fault.Err != api.OK:
		return "names"
	}
	return "firm"
}

// checkCounts fails where something was drawn too seldom.
func checkCounts(t *testing.T, count, least map[string]int) {
	t.Helper()
	t.Log(count)
	for what, n := range least {
		if count[what] < n {
			t.Errorf("%s: %d times only", what, count[what])
		}
	}
}

// P10.1, P10.2: programs in which all is firm that must be have no fault, programs with something changed have the one that the rules give, and the open variables are the smallest set of all that satisfy the rules.
func TestDrawn(t *testing.T) {
	for seed := range int64(4) {
		t.Run(strconv.Itoa(int(seed)), func(t *testing.T) {
			t.Parallel()
			m, count := newMaker(seed), map[string]int{}
			for range 250 {
				p, _ := m.program()
				if found := checkJudged(t, p); found != "firm" {
					t.Fatalf("%s is drawn firm, and judged: %q", show(p), found)
				}
				for range 6 {
					q := m.mutant(p)
					count[checkJudged(t, q)]++
					count[checkJudged(t, m.mutant(q))]++
				}
			}
			checkCounts(t, count, map[string]int{"firm": 1000, "first item": 100, "later item": 200, "only an Out": 50, "sugar": 50, "names": 100})
		})
	}
}

// features counts what a program has, where open tells of its variables.
func features(p api.Program, open [][]bool, may [][]string, count map[string]int) {
	if _, f := types.Infer(p); f.Err == api.OK {
		count["types"]++
	}
	for k, n := range p.Nodes {
		for i, v := range varsOf(n) {
			switch {
			case open[k][i]:
				count["open"]++
			case slices.Contains(may[k], v):
				count["firm after all"]++
			}
		}
		for _, i := range n.Items {
			if len(i.Names) > 1 {
				count["several names"]++
			}
			for _, e := range below(i.E) {
				count["op "+strconv.Itoa(e.Op)]++
			}
		}
	}
}

// P10.1, P10.2: in larger programs, too, all is firm that must be, and only variables are open that may be so.
func TestLarge(t *testing.T) {
	m, count := newMaker(11), map[string]int{}
	m.small = false
	for range 400 {
		p, may := m.program()
		if _, f := types.Infer(p); f.Err == api.ErrBound {
			continue
		}
		if found := checkJudged(t, p); found != "firm" {
			t.Fatalf("%s is drawn firm, and judged: %q", show(p), found)
		}
		open := inferred(t, p)
		for k, n := range p.Nodes {
			for i, v := range varsOf(n) {
				if open[k][i] && !slices.Contains(may[k], v) {
					t.Fatalf("%s is open in the node %d of %s", v, k, show(p))
				}
			}
		}
		features(p, open, may, count)
	}
	least := map[string]int{"open": 500, "firm after all": 200, "several names": 50}
	for op := api.Int; op <= api.Every; op++ {
		if op != api.Match {
			least["op "+strconv.Itoa(op)] = 100
		}
	}
	checkCounts(t, count, least)
}

// opens tells, by the words of the chapter, whether e is open, given the variables that are.
func opens(open map[string]bool, e api.Expr) bool {
	kid := func(i int) bool { return opens(open, e.Kids[i]) }
	switch e.Op {
	case api.Var:
		return open[e.Name]
	case api.Pre:
		return true
	case api.Un, api.When, api.Fby, api.Arrow:
		return kid(0)
	case api.Bin:
		return kid(0) || kid(1)
	case api.If:
		return kid(0) || kid(1) || kid(2)
	}
	return false
}

// P10.2: a variable is open exactly if the expression is that alone defines it, and in a node without a pre none is.
func TestEquationsOfDrawn(t *testing.T) {
	m, without, alone := newMaker(12), 0, 0
	for i := range 600 {
		m.small = i%2 == 0
		p, _ := m.program()
		if _, f := types.Infer(p); f.Err == api.ErrBound {
			continue
		}
		for k, l := range inferred(t, p) {
			n, open, pre := p.Nodes[k], map[string]bool{}, false
			for i, v := range varsOf(n) {
				open[v] = l[i]
			}
			for _, i := range n.Items {
				pre = pre || slices.ContainsFunc(below(i.E), func(e api.Expr) bool { return e.Op == api.Pre })
				if len(i.Names) == 1 && open[i.Names[0]] != opens(open, i.E) {
					t.Fatalf("%q is open: %v, and is defined by %s in %s", i.Names, open[i.Names[0]], show(i.E), show(p))
				}
				if len(i.Names) == 1 {
					alone++
				}
			}
			if pre {
				continue
			}
			without++
			if slices.Contains(l, true) {
				t.Fatalf("%v in the node %d without a pre of %s", l, k, show(p))
			}
		}
	}
	if without < 100 || alone < 1000 {
		t.Errorf("%d nodes without a pre, %d equations with one name", without, alone)
	}
}

// P10.2: what is said of a variable is said of it in any order of the items.
func TestOrders(t *testing.T) {
	m := newMaker(13)
	m.small = false
	for range 200 {
		p, _ := m.program()
		if _, f := types.Infer(p); f.Err == api.ErrBound {
			continue
		}
		want := map[string]bool{}
		for k, open := range inferred(t, p) {
			for i, v := range varsOf(p.Nodes[k]) {
				want[strconv.Itoa(k)+v] = open[i]
			}
		}
		for _, n := range p.Nodes {
			m.Shuffle(len(n.Items), func(i, j int) { n.Items[i], n.Items[j] = n.Items[j], n.Items[i] })
		}
		for k, open := range inferred(t, p) {
			for i, v := range varsOf(p.Nodes[k]) {
				if open[i] != want[strconv.Itoa(k)+v] {
					t.Fatalf("%s is open: %v, and in another order %v: %s", v, want[strconv.Itoa(k)+v], open[i], show(p))
				}
			}
		}
	}
}

// W0: programs of any trees have a result.
func TestNoise(t *testing.T) {
	m := newMaker(14)
	for range 400 {
		p, _ := m.program()
		for range 15 {
			n := &p.Nodes[m.Intn(len(p.Nodes))]
			e := one(m, pointers(&n.Items[m.Intn(len(n.Items))].E))
			switch m.Intn(4) {
			case 0:
				e.Op += m.Intn(3) - 1
			case 1:
				e.Kids = e.Kids[:m.Intn(len(e.Kids)+1)]
			case 2:
				e.Name = one(m, []string{"", "x0", "+", "not", "C00", "n0"})
			case 3:
				e.Cons = append(e.Cons, one(m, []string{"", "True", "n0", "g"}))
			}
			checkJudged(t, p)
		}
	}
}

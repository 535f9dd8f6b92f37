package clocks_test

import (
	"slices"
	"strconv"
	"strings"
	"testing"

	"pendule/api"
	"pendule/clocks"
	"pendule/types"
)

// checkRules holds the clocks of a node against what the rules say of them, by Fits and by the judge.
func checkRules(t *testing.T, p api.Program, n api.Node, vars []api.Named) {
	t.Helper()
	var names []string
	byName, paths := map[string]api.Clock{}, map[string]path{}
	for _, v := range vars {
		names = append(names, v.Name)
		byName[v.Name], paths[v.Name] = v.Clock, pathOf(v.Clock)
	}
	if !slices.Equal(names, varsOf(n)) {
		t.Fatalf("%s is no answer for %s in %s", showVars(vars), n.Name, showProgram(p))
	}
	for b, i := range n.Items {
		for _, v := range i.Names {
			if !clocks.Fits(vars, i.E, byName[v]) {
				t.Fatalf("%s: the item %d of %s does not fit in %s", showVars(vars), b, n.Name, showProgram(p))
			}
		}
		if !judgeItem(paths, i.Eq) {
			t.Fatalf("%s: the item %d of %s is wrong in %s", showVars(vars), b, n.Name, showProgram(p))
		}
	}
	for _, v := range slices.Concat(n.Ins, n.Outs) {
		if len(byName[v]) > 0 {
			t.Fatalf("%s: %s of %s is not always present in %s", showVars(vars), v, n.Name, showProgram(p))
		}
	}
	for _, v := range vars {
		for i, s := range v.Clock {
			if before, ok := byName[s.Var]; !ok || !slices.Equal(before, v.Clock[:i]) {
				t.Fatalf("%s: %s has another clock than that ahead of its sample in %s", showVars(vars), s.Var, showProgram(p))
			}
		}
	}
}

// checkJudged holds what Infer returns of p against what the judge finds, and returns what that is: "clocked", a word for the fault, or "" if it finds nothing.
func checkJudged(t *testing.T, p api.Program) string {
	t.Helper()
	want, paths, ok := judged(p)
	if !ok {
		return ""
	}
	before := showProgram(p)
	l, got := clocks.Infer(p)
	if got != want || want != (api.Fault{}) && len(l) > 0 || want == (api.Fault{}) && len(l) != len(p.Nodes) {
		t.Fatalf("Infer(%s): fault %v and the clocks %q, want %v", before, got, showAll(l), want)
	}
	if showProgram(p) != before {
		t.Fatalf("%s is changed", before)
	}
	for k, vars := range l {
		checkRules(t, p, p.Nodes[k], vars)
		for _, v := range vars {
			if pathOf(v.Clock) != paths[k][v.Name] || v.Type != 0 {
				t.Fatalf("Infer(%s): %v in the node %d, want %v", before, v, k, paths[k][v.Name])
			}
		}
	}
	switch {
	case want.Err == api.ErrClock && want.B > 0:
		return "later item"
	case want.Err == api.ErrClock:
		return "first item"
	case want.Err == api.ErrArg:
		return "sugar"
	case want.Err != api.OK:
		return "names"
	}
	return "clocked"
}

// features counts what the clocks of a program have.
func features(p api.Program, l [][]api.Named, count map[string]int) {
	if _, f := types.Infer(p); f.Err == api.OK {
		count["types"]++
	}
	for k, vars := range l {
		for _, v := range vars {
			switch len(v.Clock) {
			case 0:
			case 1:
				count["one sample"]++
			default:
				count["more samples"]++
			}
		}
		for _, i := range p.Nodes[k].Items {
			if len(i.Names) > 1 {
				count["several names"]++
			}
			for _, e := range below(i.E) {
				count["op "+strconv.Itoa(e.Op)]++
			}
		}
	}
}

// checkCounts fails where something was drawn too seldom.
func checkCounts(t *testing.T, count, least map[string]int) {
	t.Helper()
	t.Log(count)
	for what, n := range least {
		if count[what] < n {
			t.Errorf("%s: %d times only", what, count[what])
		}
	}
}

// P9.1, P9.2: programs that are drawn with clocks have them, programs with something changed have the fault that the rules give, and the clocks are the shortest of all that satisfy the rules.
func TestDrawn(t *testing.T) {
	for seed := range int64(4) {
		t.Run(strconv.Itoa(int(seed)), func(t *testing.T) {
			t.Parallel()
			m, count := newMaker(seed), map[string]int{}
			for range 150 {
				p, _ := m.program()
				if found := checkJudged(t, p); found != "clocked" && found != "" {
					t.Fatalf("%s is drawn with clocks, and judged: %q", showProgram(p), found)
				}
				for range 6 {
					q := m.mutant(p)
					count[checkJudged(t, q)]++
					count[checkJudged(t, m.mutant(q))]++
				}
			}
			checkCounts(t, count, map[string]int{"clocked": 300, "first item": 100, "later item": 100, "sugar": 10, "names": 50})
		})
	}
}

// P9.2: the clocks of larger programs satisfy the rules, and are what the clocks that these were drawn with end in.
func TestLarge(t *testing.T) {
	m, count := newMaker(11), map[string]int{}
	m.small = false
	for range 400 {
		p, drawn := m.program()
		if _, f := types.Infer(p); f.Err == api.ErrBound {
			continue
		}
		l := inferred(t, p)
		for k, n := range p.Nodes {
			checkRules(t, p, n, l[k])
			for i, v := range l[k] {
				if d := drawn[k][i]; d.Name != v.Name || !strings.HasSuffix(string(pathOf(d.Clock)), string(pathOf(v.Clock))) {
					t.Fatalf("%s:%s is drawn, and inferred: %s:%s in %s", d.Name, showClock(d.Clock), v.Name, showClock(v.Clock), showProgram(p))
				} else if len(d.Clock) > len(v.Clock) {
					count["open"]++
				}
			}
		}
		features(p, l, count)
	}
	least := map[string]int{"one sample": 500, "more samples": 300, "several names": 50, "open": 20}
	for op := api.Int; op <= api.Every; op++ {
		if op != api.Match && op != api.Bool {
			least["op "+strconv.Itoa(op)] = 100
		}
	}
	checkCounts(t, count, least)
}

// P9.2: what is said of a clock is said of it in any order of the items.
func TestOrders(t *testing.T) {
	m := newMaker(12)
	m.small = false
	for range 200 {
		p, _ := m.program()
		if _, f := types.Infer(p); f.Err == api.ErrBound {
			continue
		}
		want := map[string]string{}
		for k, vars := range inferred(t, p) {
			for _, v := range vars {
				want[strconv.Itoa(k)+v.Name] = showClock(v.Clock)
			}
		}
		for _, n := range p.Nodes {
			m.Shuffle(len(n.Items), func(i, j int) { n.Items[i], n.Items[j] = n.Items[j], n.Items[i] })
		}
		for k, vars := range inferred(t, p) {
			for _, v := range vars {
				if got := showClock(v.Clock); got != want[strconv.Itoa(k)+v.Name] {
					t.Fatalf("%s has the clock %s, and in another order %s: %s", v.Name, want[strconv.Itoa(k)+v.Name], got, showProgram(p))
				}
			}
		}
	}
}

// P9.1, W0: any expression fits, or does not, as the judge says.
func TestFitsDrawn(t *testing.T) {
	m, fits, not := newMaker(13), 0, 0
	for range 3000 {
		vars := []api.Named{}
		names := []string{"x", "y", "z", "w", "x"}
		for range m.Intn(5) {
			c := api.Clock{}
			for range m.Intn(3) {
				if len(vars) > 0 && m.Intn(3) > 0 {
					v := one(m, vars)
					c = append(slices.Clone(v.Clock), api.Sample{Var: v.Name, Con: one(m, []string{"A", "B"})})
				} else {
					c = append(c, api.Sample{Var: one(m, names), Con: one(m, []string{"A", "B"})})
				}
			}
			vars = append(vars, api.Named{Name: one(m, names), Clock: c})
		}
		paths, cs := map[string]path{}, []api.Clock{nil, {{Var: "x", Con: "A"}}}
		for _, v := range slices.Backward(vars) {
			paths[v.Name] = pathOf(v.Clock)
			cs = append(cs, v.Clock, append(slices.Clone(v.Clock), api.Sample{Var: v.Name, Con: one(m, []string{"A", "B"})}))
		}
		for range 30 {
			e, c := m.noise(vars, 3), one(m, cs)
			want := judgeFits(paths, e, pathOf(c))
			if got := clocks.Fits(vars, e, c); got != want {
				t.Fatalf("Fits(%s, %s, %s) = %v", showVars(vars), show(e), showClock(c), got)
			}
			if want {
				fits++
			} else {
				not++
			}
		}
	}
	if fits < 20000 || not < 20000 {
		t.Errorf("%d fit, %d do not", fits, not)
	}
}

// noise draws any expression, well-formed or not, more often one of few variables.
func (m *maker) noise(vars []api.Named, depth int) api.Expr {
	e := api.Expr{Op: 1 + m.Intn(api.Every), Name: one(m, []string{"x", "y"})}
	if len(vars) > 0 && m.Intn(8) > 0 {
		e.Name = one(m, vars).Name
	}
	if m.Intn(20) == 0 {
		e.Op = m.Intn(20) - 2
	}
	kids := one(m, []int{1, 1, 1, 2, 0})
	if depth == 0 || m.Intn(4) == 0 {
		e.Op, kids = one(m, []int{api.Int, api.Bool, api.Con, api.Var, api.Var}), 0
	}
	for range kids {
		e.Kids = append(e.Kids, m.noise(vars, depth-1))
	}
	for range len(e.Kids) + m.Intn(2) - m.Intn(8)/7 {
		e.Cons = append(e.Cons, one(m, []string{"A", "B"}))
	}
	return e
}

// W0: programs of any trees have a result.
func TestNoise(t *testing.T) {
	m := newMaker(14)
	for range 300 {
		p, _ := m.program()
		for range 15 {
			n := &p.Nodes[m.Intn(len(p.Nodes))]
			e := one(m, pointers(&n.Items[m.Intn(len(n.Items))].E))
			switch m.Intn(4) {
			case 0:
				e.Op += m.Intn(3) - 1
			case 1:
				e.Kids = e.Kids[:m.Intn(len(e.Kids)+1)]
			case 2:
				e.Name = one(m, []string{"", "x0", "+", "not", "C00", "n0"})
			case 3:
				e.Cons = append(e.Cons, one(m, []string{"", "True", "n0", "g"}))
			}
			checkJudged(t, p)
		}
	}
}

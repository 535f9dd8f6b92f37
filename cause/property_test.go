package cause_test

import (
	"slices"
	"strconv"
	"testing"

	"pendule/api"
	"pendule/cause"
	"pendule/types"
)

// most is the number of items up to which all orders of them are tried.
const most = 5

// checkNode holds the order of n, and what its expressions read, against what the judge finds, and tells whether there is an order.
func checkNode(t *testing.T, n api.Node) bool {
	t.Helper()
	for _, i := range n.Items {
		for _, e := range below(i.E) {
			if got, want := cause.Reads(e), readBy(e); !slices.Equal(got, want) {
				t.Fatalf("Reads(%s) = %q, want %q", show(e), got, want)
			}
		}
	}
	want := placed(n)
	if len(n.Items) <= most {
		if l := least(n, nil); !slices.Equal(l, want) {
			t.Fatalf("%v is the first order that fits, and %v is placed, in %s", l, want, show(n))
		}
	}
	got, ok := cause.Order(n)
	if ok != (want != nil) || !slices.Equal(got, want) {
		t.Fatalf("Order(%s) = %v, %v, want %v", show(n), got, ok, want)
	}
	// P11.2: each item once, behind those that define what it reads.
	if ok && !fits(n, got) {
		t.Fatalf("Order(%s) = %v", show(n), got)
	}
	return ok
}

// checkJudged holds what is found of p against what the judge finds, and returns a word for that.
func checkJudged(t *testing.T, p api.Program) string {
	t.Helper()
	before, want := show(p), judgedFault(p)
	got := cause.Check(p)
	if got != want {
		t.Fatalf("Check(%s) = %v, want %v", before, got, want)
	}
	ordered := true
	for _, n := range p.Nodes {
		ordered = checkNode(t, n) && ordered
	}
	if show(p) != before {
		t.Fatalf("%s is changed", before)
	}
	switch got.Err {
	case api.OK, api.ErrCause:
		// P11.2: a plain program has a fault exactly if there is a node without an order.
		if ordered != (got.Err == api.OK) {
			t.Fatalf("Check(%s) = %v, and all nodes have an order: %v", before, got, ordered)
		}
	case api.ErrArg:
		return "sugar"
	default:
		return "wrong"
	}
	switch {
	case ordered:
		return "order"
	case got.B > 0:
		return "later item"
	}
	return "first item"
}

// checkCounts fails where something was drawn too seldom.
func checkCounts(t *testing.T, count, least map[string]int) {
	t.Helper()
	t.Log(count)
	for what, n := range least {
		if count[what] < n {
			t.Errorf("%s: %d times only", what, count[what])
		}
	}
}

// P11.1, P11.2: programs that are drawn after an order have no fault, programs with something changed have the one that the rules give, and the orders are the first ones of all that fit.
func TestDrawn(t *testing.T) {
	for seed := range int64(4) {
		t.Run(strconv.Itoa(int(seed)), func(t *testing.T) {
			t.Parallel()
			m, count := newMaker(seed), map[string]int{}
			for range 150 {
				p := m.program(most)
				if found := checkJudged(t, p); found != "order" {
					t.Fatalf("%s is drawn after an order, and judged: %q", show(p), found)
				}
				for range 6 {
					q := m.mutant(p)
					count[checkJudged(t, q)]++
					count[checkJudged(t, m.mutant(m.mutant(q)))]++
				}
			}
			checkCounts(t, count, map[string]int{"order": 500, "first item": 75, "later item": 75, "sugar": 50, "wrong": 50})
		})
	}
}

// P11.1, P11.2: the same of larger programs, in which every Op occurs.
func TestLarge(t *testing.T) {
	m, count := newMaker(21), map[string]int{}
	for range 300 {
		p := m.program(api.MaxItems)
		if _, f := types.Infer(p); f.Err == api.ErrBound {
			continue
		}
		if found := checkJudged(t, p); found != "order" {
			t.Fatalf("%s is drawn after an order, and judged: %q", show(p), found)
		}
		for _, n := range p.Nodes {
			for _, i := range n.Items {
				count["names "+strconv.Itoa(len(i.Names))]++
				for _, e := range below(i.E) {
					count["op "+strconv.Itoa(e.Op)]++
				}
			}
		}
		count[checkJudged(t, m.mutant(m.mutant(p)))]++
	}
	least := map[string]int{"names 2": 100, "order": 50, "later item": 20}
	for op := api.Int; op <= api.Every; op++ {
		if op != api.Match {
			least["op "+strconv.Itoa(op)] = 100
		}
	}
	checkCounts(t, count, least)
}

// P11.2: whether there is an order does not depend on that of the items.
func TestOrders(t *testing.T) {
	m, count := newMaker(22), map[string]int{}
	for range 400 {
		p := m.program(10)
		p = m.mutant(m.mutant(m.mutant(p)))
		want := cause.Check(p)
		count[strconv.Itoa(int(want.Err))]++
		if want.Err != api.OK && want.Err != api.ErrCause {
			continue
		}
		for _, n := range p.Nodes {
			m.Shuffle(len(n.Items), func(i, j int) { n.Items[i], n.Items[j] = n.Items[j], n.Items[i] })
		}
		if got := cause.Check(p); got.Err != want.Err || got.A != want.A {
			t.Fatalf("Check(%s) = %v, and in another order of the items %v", show(p), got, want)
		}
	}
	checkCounts(t, count, map[string]int{"0": 100, strconv.Itoa(int(api.ErrCause)): 50})
}

// noise changes something at e, which need not be well-formed.
func (m *maker) noise(e *api.Expr) {
	switch m.Intn(5) {
	case 0:
		e.Op = m.Intn(api.Mem+4) - 2
	case 1:
		e.Kids = e.Kids[:m.Intn(len(e.Kids)+1)]
	case 2:
		e.Name = one(m, []string{"", "x", "y0", "y1", "z1", "+", "not", "A", "n0"})
	case 3:
		e.Cons = append(e.Cons, one(m, []string{"", "True", "n0", "g"}))
	default:
		e.Kids = append(e.Kids, m.leaf())
	}
}

// noiseOf changes something of an item of n: names that are there twice, or automata that are expressions, too.
func (m *maker) noiseOf(n *api.Node) {
	i := one(m, itemsOf(n))
	switch m.Intn(4) {
	case 0:
		i.Names = append(i.Names, one(m, varsOf(*n)))
	case 1:
		i.Names = i.Names[:m.Intn(len(i.Names)+1)]
	case 2:
		i.States = append(i.States, api.State{Eqs: []api.Eq{{Names: []string{one(m, []string{"y0", "y1", "z1"})}}}})
	default:
		n.Items = slices.Insert(n.Items, m.Intn(len(n.Items)), clone(*i))
	}
}

// P11.1, W0: programs of any trees, and nodes of any items, have the answers that the chapter gives.
func TestNoise(t *testing.T) {
	m, count := newMaker(23), map[string]int{}
	for range 250 {
		p := m.program(most)
		for range 8 {
			n := &p.Nodes[m.Intn(len(p.Nodes))]
			for range m.Intn(3) {
				m.noise(one(m, pointers(&one(m, itemsOf(n)).E)))
			}
			if m.Intn(4) == 0 && len(n.Items) <= most {
				m.noiseOf(n)
			}
			count[checkJudged(t, p)]++
			if _, ok := cause.Order(*n); ok {
				count["node with an order"]++
			} else {
				count["node without"]++
			}
		}
	}
	checkCounts(t, count, map[string]int{"order": 50, "wrong": 500, "node with an order": 500, "node without": 150})
}

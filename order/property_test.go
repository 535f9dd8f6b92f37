package order_test

import (
	"slices"
	"strconv"
	"testing"

	"pendule/api"
	"pendule/normal"
	"pendule/order"
	"pendule/parse"
	"pendule/special"
	"pendule/sugar"
)

// most is the number of equations up to which all arrangements of them are tried.
const most = 5

// checkJudged holds the order of n, and what its equations read, against what the judge finds, and tells whether there is an order.
func checkJudged(t *testing.T, n api.NNode) bool {
	t.Helper()
	for _, q := range n.Eqs {
		want := readBy(q)
		for i := len(want) - 1; i >= 0; i-- {
			if slices.Contains(want[:i], want[i]) {
				want = slices.Delete(want, i, i+1)
			}
		}
		if got := order.Reads(q); !slices.Equal(got, want) {
			t.Fatalf("Reads(%s) = %q, want %q", show(q), got, want)
		}
	}
	want := placed(n)
	if len(n.Eqs) <= most {
		if l := least(n, nil); !slices.Equal(l, want) || (l == nil) != (want == nil) {
			t.Fatalf("%v is the first order that fits, and %v is placed, in %s", l, want, show(n))
		}
	}
	got, ok := order.Make(n)
	if ok != (want != nil) || !slices.Equal(got, want) || !ok && got != nil {
		t.Fatalf("Make(%s) = %v, %v, want %v", show(n), got, ok, want)
	}
	return ok
}

// checkNormal holds that a node of layer 14 has an order, and what the order has to be, and returns it.
func checkNormal(t *testing.T, n api.NNode) []int {
	t.Helper()
	// P15.2: there is an order.
	if !checkJudged(t, n) {
		t.Fatalf("there is no order of %s", show(n))
	}
	l, _ := order.Make(n)
	// P15.3: each equation once.
	at := make([]int, len(n.Eqs))
	for i, b := range l {
		at[b] = i
	}
	for b, i := range at {
		if len(l) != len(n.Eqs) || l[i] != b {
			t.Fatalf("%v is the order of %s", l, show(n))
		}
	}
	// P15.3: what computes a name ahead of all that read it, and a memory behind all others that do.
	for b, q := range n.Eqs {
		for d, other := range n.Eqs {
			for _, v := range q.Names {
				if reads(other, v) && (is(q, api.NExp, api.NCall) && at[b] >= at[d] || is(q, api.NMem, api.NFlag) && at[b] < at[d]) {
					t.Fatalf("the equations %d and %d are out of order in %v of %s", b, d, l, show(n))
				}
			}
		}
	}
	if v := misread(n, l); v != "" {
		t.Fatalf("%s is misread in the order %v of %s", v, l, show(n))
	}
	return l
}

// checkCounts fails where something was drawn too seldom.
func checkCounts(t *testing.T, count, least map[string]int) {
	t.Helper()
	t.Log(count)
	for what, n := range least {
		if count[what] < n {
			t.Errorf("%s: %d times only", what, count[what])
		}
	}
}

// P15.1: all nodes with three equations that have one of two names each and read none, one or both of them.
func TestAll(t *testing.T) {
	var eqs []api.NEq
	for sort := range 5 {
		for _, name := range []string{"a", "b"} {
			for _, e := range []api.Expr{{}, variable("a"), variable("b"), {Op: api.Bin, Kids: []api.Expr{variable("a"), variable("b")}}} {
				eqs = append(eqs, api.NEq{Sort: sort, Names: []string{name}, E: e})
			}
		}
	}
	count := map[string]int{}
	for _, p := range eqs {
		for _, q := range eqs {
			for _, r := range eqs {
				n := api.NNode{Eqs: []api.NEq{p, q, r}}
				want := placed(n)
				got, ok := order.Make(n)
				if ok != (want != nil) || !slices.Equal(got, want) {
					t.Fatalf("Make(%s) = %v, %v, want %v", show(n), got, ok, want)
				}
				count[strconv.FormatBool(ok)]++
			}
		}
	}
	checkCounts(t, count, map[string]int{"true": 10000, "false": 10000})
}

// P15.1, W0: nodes of any equations have the order that the chapter gives, which is the first one of all that fit.
func TestDrawn(t *testing.T) {
	for seed := range int64(4) {
		t.Run(strconv.Itoa(int(seed)), func(t *testing.T) {
			t.Parallel()
			m, count := newMaker(seed), map[string]int{}
			for range 3000 {
				n := m.anyNode(m.Intn(most + 1))
				before := show(n)
				count["small "+strconv.FormatBool(checkJudged(t, n))]++
				if show(n) != before {
					t.Fatalf("%s is changed to %s", before, show(n))
				}
				n = m.anyNode(most + m.Intn(8))
				for len(n.Eqs) > most && !checkJudged(t, n) {
					n.Eqs = slices.Delete(n.Eqs, 0, 1)
				}
				count["large "+strconv.FormatBool(len(n.Eqs) > most)]++
			}
			checkCounts(t, count, map[string]int{"small true": 1000, "small false": 300, "large true": 1000})
		})
	}
}

// P15.2, P15.3: what layer 14 makes of programs that are drawn has an order.
func TestNormal(t *testing.T) {
	for seed := range int64(4) {
		t.Run(strconv.Itoa(int(seed)), func(t *testing.T) {
			t.Parallel()
			m, count := newMaker(100+seed), map[string]int{}
			for range 500 {
				s := m.program(1 + m.Intn(8))
				p, f := parse.Parse(s)
				if f.Err == api.ErrBound {
					continue
				}
				if f != (api.Fault{}) {
					t.Fatalf("Parse(%q): fault %v", s, f)
				}
				l, f := normal.Make(p)
				count["error "+strconv.Itoa(int(f.Err))]++
				for _, n := range l {
					made := checkNormal(t, n)
					if !slices.IsSorted(made) {
						count["moved"]++
					}
					for _, q := range n.Eqs {
						count["sort "+strconv.Itoa(q.Sort)]++
						count["samples "+strconv.Itoa(len(q.Clock))]++
						if q.Reset != "" {
							count["reset"]++
						}
					}
				}
			}
			checkCounts(t, count, map[string]int{"error 0": 300, "error 8": 20, "moved": 300, "sort 1": 1000, "sort 2": 500, "sort 3": 500, "sort 4": 300, "samples 1": 500, "samples 2": 100, "reset": 100})
		})
	}
}

// P15.2, P15.3: constants have the clocks of what they stand beside, which layer 11 does not have them read.
func TestClocksOfConstants(t *testing.T) {
	for _, x := range []struct {
		items string
		want  []int
	}{
		{"y = merge e (False -> 0 | True -> z); z = 1; e = c;", []int{2, 1, 0}},
		{"z = pre 1; w = z + (x when True(e)); e = not c; y = x;", []int{4, 0, 2, 1, 3, 5}},
		{"y = merge e (False -> 0 | True -> z); z = 1 fby z; e = c fby (0 < y);", []int{8, 4, 0, 1, 2, 3, 5, 6, 7}},
		{"y = merge e (False -> 0 | True -> id(z)); z = id(1) every true; e = c;", []int{4, 2, 3, 0, 1}},
	} {
		l := normalized(t, program(t, prelude+"node main (x, c, d) = (y) where "+x.items+" end"))
		n := l[len(l)-1]
		if got := checkNormal(t, n); !slices.Equal(got, x.want) {
			t.Errorf("%v is the order of %s, want %v", got, show(n), x.want)
		}
	}
}

// P15.2, P15.3: the nodes that layers 6 and 12 make of automata, matches and static arguments have an order once they are normalized.
func TestTranslated(t *testing.T) {
	for _, s := range []string{
		"node main (x) = (y) where automaton state A: y = 0 fby y + x; until x < 3 then B; state B: y = 1; until y = x then A; end; end",
		"node main (x) = (y) where y = match b (False -> pre y | True -> x -> z + 1); z = match b (False -> pre y | True -> 0 fby z); b = x < 1; end",
		"node inc (x) = (y) where y = x -> pre y + x; end node twice [g] (x) = (y) where y = g(g(x) every (x = 1)); end node main (x) = (y) where y = twice[inc](x) fby z; z = twice[inc](y); end",
		"node main (x, c) = (y, z) where automaton state A: y = x; z = y fby y; until true then B; state B: y = 0 fby z; z = y; until c then A; end; automaton state C: w = 1; until y < w then D; state D: w = y; until c then C; end; end",
	} {
		plain, f := sugar.Plain(program(t, s))
		if f != (api.Fault{}) {
			t.Fatalf("Plain(%q): fault %v", s, f)
		}
		p, f := special.Make(plain, "main")
		if f != (api.Fault{}) {
			t.Fatalf("special.Make(%q): fault %v", s, f)
		}
		for _, n := range normalized(t, p) {
			checkNormal(t, n)
		}
	}
}

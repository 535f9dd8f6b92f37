package cause_test

import (
	"slices"
	"strconv"
	"strings"
	"testing"

	"pendule/api"
	"pendule/cause"
)

// P11.1: the examples of the chapter.
func TestExamples(t *testing.T) {
	checkFault(t, causeFault(0, 0), "node f (x) = (y) where y = z; z = y; end")
	p := program(t, "node f (x) = (y) where y = 0 fby z; z = y + 1; end")
	checkProgramFault(t, "a delay", p, api.Fault{})
	checkOrder(t, p.Nodes[0], []int{0, 1})
	p = program(t, "node f (x) = (y) where y = z; z = 0 fby y; end")
	checkProgramFault(t, "a delay", p, api.Fault{})
	checkOrder(t, p.Nodes[0], []int{1, 0})
}

// P11.1: each item comes after those that define what it reads, and otherwise the smallest index comes first.
func TestOrder(t *testing.T) {
	checkOrders(t, "y = x;", 0)
	checkOrders(t, "y = x; z = x; w = c;", 0, 1, 2)
	checkOrders(t, "y = x; z = y; w = z;", 0, 1, 2)
	checkOrders(t, "w = z; z = y; y = x;", 2, 1, 0)
	checkOrders(t, "y = w; z = 1; w = 2;", 1, 2, 0)
	checkOrders(t, "y = w; z = y; w = 2; v = 3;", 2, 0, 1, 3)
	checkOrders(t, "y = v; z = w; w = 2; v = 3;", 2, 1, 3, 0)
	checkOrders(t, "y = v + w; z = 1; v = z; w = u; u = 2;", 1, 2, 4, 3, 0)
	checkOrders(t, "v = w + z; w = 1; z = 2; y = v; u = y;", 1, 2, 0, 3, 4)
	checkOrders(t, "y = u; z = u; w = u; v = y; u = 0;", 4, 0, 1, 2, 3)
	checkOrders(t, "a = b; b = c; d = e; e = x; y = a;", 1, 0, 3, 2, 4)
	checkOrders(t, "a = b; b = d; d = e; e = x; y = b;", 3, 2, 1, 0, 4)
}

// P11.1: what follows a delay is read an instant later, so that it need not come first.
func TestOrderOfDelays(t *testing.T) {
	checkOrders(t, "y = pre y;", 0)
	checkOrders(t, "y = 0 fby y;", 0)
	checkOrders(t, "y = x fby (y + 1);", 0)
	checkOrders(t, "y = 0 fby z; z = 1 fby y;", 0, 1)
	checkOrders(t, "y = z fby y; z = pre y;", 1, 0)
	checkOrders(t, "y = z; z = pre y;", 1, 0)
	checkOrders(t, "y = w -> pre w; w = pre (y + w);", 1, 0)
	checkOrders(t, "y = inc(0 fby y);", 0)
	checkOrders(t, "y = twice[inc](pre y) every pre y;", 0)
	checkOrders(t, "y = inc(z) every (0 fby y); z = pre (y when A(y));", 1, 0)
	checkOrders(t, "y = merge c (A -> pre y | B -> 0 fby y);", 0)
	checkOrders(t, "y = x fby merge y (A -> y | B -> y);", 0)
	checkOrders(t, "y = if pre y then z else 0 fby z; z = if pre z then 1 else x fby y;", 1, 0)
}

// reading are expressions that read @, and nothing else that an item defines.
var reading = []string{"@", "- @", "not @", "@ + 1", "1 + @", "x = @", "@ and @", "if @ then 0 else 1", "if x then @ else 1", "if x then 0 else @", "@ fby 0", "@ fby @", "@ -> 0", "0 -> @", "pre x -> @",
	"@ when A(c)", "merge c (A -> @ | B -> 0)", "merge c (A -> 0 | B -> @)", "inc(@)", "third(@, 0, 1)", "third(0, @, 1)", "third(0, 1, @)", "twice[inc](@)",
	"inc(@) every x", "inc(x) every @", "third(0, 1, @) every true", "inc(inc(1 + @)) every (x -> c)", "((@ fby 1) fby 2) -> 3", "merge x (False -> inc(@ when False(x)) | True -> 1)"}

// named are expressions in which @ is the name of a sample or a merge.
var named = []string{"x when A(@)", "1 when False(@)", "merge @ (A -> 0 | B -> 1)", "merge @ (One -> x)", "inc(1 when A(@))", "0 -> merge @ (A -> pre x | B -> 1)", "(x when A(@)) fby 1"}

// unread are expressions that hold @ without reading it.
var unread = []string{"pre @", "0 fby @", "x fby - @", "pre inc(@)", "1 + pre (x when A(@))", "x fby 1 fby @", "0 -> pre @", "inc(pre @)", "inc(x) every (0 fby @)", "pre merge @ (A -> 1 | B -> @)",
	"pre (@ -> @)", "pre (@ fby @)", "x -> x fby (@ -> 1)", "merge c (A -> 1 fby @ | B -> pre @)", "third(1, pre @, 0 fby @) every pre @", "(pre @) when A(c)", "pre pre @"}

func within(form, v string) string { return strings.ReplaceAll(form, "@", v) }

// P11.1, P11.2: what is read must be there, and a variable that reads itself, be it through others, has no order.
func TestReading(t *testing.T) {
	for _, form := range append(slices.Clone(reading), named...) {
		checkOrders(t, "y = "+within(form, "z")+"; z = x;", 1, 0)
		checkOrders(t, "y = x; z = "+within(form, "y")+";", 0, 1)
		checkOrders(t, "w = x; y = "+within(form, "z")+"; z = pre y;", 0, 2, 1)
		checkOrders(t, "y = "+within(form, "c")+";", 0)
		checkCircles(t, 0, "y = "+within(form, "y")+";", "y = "+within(form, "z")+"; z = y;", "y = z; z = "+within(form, "y")+";", "y = z + w; w = x; z = "+within(form, "y")+";")
		checkCircles(t, 1, "y = x; z = "+within(form, "z")+";", "y = z; z = "+within(form, "z")+";", "y = x; z = w; w = "+within(form, "z")+"; u = z;")
	}
	for _, form := range unread {
		checkOrders(t, "y = "+within(form, "y")+";", 0)
		checkOrders(t, "y = "+within(form, "z")+"; z = y;", 0, 1)
		checkOrders(t, "z = y; y = "+within(form, "z")+";", 1, 0)
	}
}

// P11.1: an equation with several names defines all of them, and each of them waits for what the whole reads.
func TestSeveralNames(t *testing.T) {
	checkOrders(t, "(y, z) = two(x, c);", 0)
	checkOrders(t, "w = z; v = y; (y, z) = two(x, u); u = 1;", 3, 2, 0, 1)
	checkOrders(t, "(y, z) = two(w, pre y) every (0 fby z); w = pre z;", 1, 0)
	checkOrders(t, "w = z + y; (y, z) = two(pre w, 0 fby w);", 1, 0)
	checkCircles(t, 0, "(y, z) = two(y, x);", "(y, z) = two(x, y);", "(y, z) = two(z, x);", "(y, z) = two(x, 1) every z;", "(y, z) = two(w, x); w = z;", "(y, z) = two(x, 1) every (1 < w); w = y;",
		"(y, z) = two(w, v); w = x; v = w + z;")
	checkCircles(t, 1, "y = z; (z, w) = two(v, x); v = w;", "y = x; (z, w) = two(x, 1) every (u -> x); (v, u) = two(1, z); r = v;")
}

// P11.1: a variable waits for what those wait for that it reads, but it is another thing to wait for one that waits for itself.
func TestWaiting(t *testing.T) {
	checkCircles(t, 0, "y = z; z = w; w = v; v = y;", "y = x + z; z = w; w = y;", "y = y; z = z;")
	checkCircles(t, 1, "y = z; z = w; w = z;", "y = x; z = w; w = v; v = w + z;", "y = z; z = z; w = w;")
	checkCircles(t, 2, "y = z; z = w; w = w;", "v = w; y = z + v; w = z; z = w;", "y = v; z = v; v = w; w = v;")
	checkCircles(t, 3, "y = pre z; z = y; w = z; v = v when A(c);", "y = pre z; z = 0 fby y; w = y -> u; u = v; v = u;")
}

// P11.1: nothing is known of a name that no item defines, be it an In, a static parameter or a node.
func TestNamesOfOthers(t *testing.T) {
	checkOrders(t, "y = inc(x); inc = y; z = inc;", 0, 1, 2)
	checkOrders(t, "two = inc(y); y = third(x, c, third); third = x; inc = inc(1);", 2, 1, 0, 3)
	p := program(t, "node f [g] (x) = (y) where y = g(x); g = y; f = g; end")
	checkProgramFault(t, "a static parameter", p, api.Fault{})
	checkOrder(t, p.Nodes[0], []int{0, 1, 2})
	p = program(t, "node h (x) = (y) where y = x; end node f [g] (x) = (y) where y = k[g](h); h = 1; end")
	p.Nodes[1].Items[0].E.Name = "unknown"
	checkOrder(t, p.Nodes[1], []int{1, 0})
	checkOrder(t, api.Node{Ins: []string{"x"}, Items: []api.Item{item(variable("nothing"), "y"), item(variable(""), "z"), item(with(api.Bin, variable("x"), variable("Y")), "w")}}, []int{0, 1, 2})
}

// P11.1: of several items that define a name the first one counts.
func TestDefinedTwice(t *testing.T) {
	x, y, z := variable("x"), variable("y"), variable("z")
	order := func(want []int, l ...api.Item) {
		t.Helper()
		checkOrder(t, api.Node{Ins: []string{"x"}, Items: l}, want)
	}
	order([]int{0, 1, 2}, item(x, "y"), item(y, "y"), item(y, "y"))
	order(nil, item(y, "y"), item(x, "y"))
	order([]int{1, 0, 2}, item(y, "z"), item(x, "y"), item(z, "y"))
	order(nil, item(y, "z"), item(z, "y"), item(x, "y"), item(x, "z"))
	order([]int{2, 0, 1, 3}, item(z, "y"), item(y, "y"), item(x, "w", "z"), item(y, "z"))
	order([]int{0, 1}, item(x, "y", "y"), item(y, "y", "z", "z"))
	order(nil, item(z, "y", "y", "z"))
	// An item may define an In, too.
	order([]int{1, 0}, item(x, "y"), item(variable("w"), "x"))
	order(nil, item(x, "x"))
	order([]int{1, 0}, item(variable(""), "y"), item(x, ""))
	order(nil, item(variable(""), ""))
	// What defines nothing has its place all the same.
	order([]int{1, 0, 2}, item(y), item(x, "y"), item(z))
	order([]int{0}, item(y))
}

// P11.1: an automaton defines the names of its first state. It has no expression of its own, so that it reads nothing.
func TestAutomata(t *testing.T) {
	p := program(t, inNode("z = y; automaton state S: y = w; v = y; until z then T; state T: v = 1; y = v + z; end; w = v;"))
	checkProgramFault(t, "an automaton", p, api.Fault{Err: api.ErrArg})
	checkOrder(t, p.Nodes[last], []int{1, 0, 2})
	x, y, z := variable("x"), variable("y"), variable("z")
	order := func(want []int, l ...api.Item) {
		t.Helper()
		checkOrder(t, api.Node{Ins: []string{"x"}, Items: l}, want)
	}
	order([]int{1, 0}, item(y, "w"), automaton([]string{"z", "y"}))
	order([]int{0, 1}, item(y, "w"), automaton(nil, []string{"y"}))
	order([]int{0, 2, 1}, automaton([]string{"w"}, []string{"y"}), item(y, "z"), item(x, "y"))
	order([]int{0, 1, 2}, automaton([]string{"y"}, []string{"y"}), item(y, "y"), automaton([]string{"y"}))
	// With an expression it reads what that does, and with states its own names do not count.
	both := automaton([]string{"z"})
	both.Names, both.E = []string{"y"}, variable("w")
	order([]int{2, 1, 0}, item(z, "v"), both, item(y, "w"))
	order(nil, item(z, "w"), both)
}

// P11.1: a match reads the names in its kids only.
func TestMatches(t *testing.T) {
	p := program(t, inNode("y = match z (A -> 1 | B -> w); z = x; w = x;"))
	checkProgramFault(t, "a match", p, api.Fault{Err: api.ErrArg})
	checkOrder(t, p.Nodes[last], []int{1, 2, 0})
	p = program(t, inNode("y = match y (A -> 1 | B -> x); z = x;"))
	checkOrder(t, p.Nodes[last], []int{0, 1})
}

// P11.1: a node without items has an empty order.
func TestNoItems(t *testing.T) {
	for _, n := range []api.Node{{}, {Name: "f", Funs: []string{"g"}, Ins: []string{"x"}, Outs: []string{"y"}}, {Items: []api.Item{}}} {
		if l, ok := cause.Order(n); !ok || len(l) > 0 {
			t.Errorf("%v and %v", l, ok)
		}
	}
	checkOrder(t, api.Node{Items: make([]api.Item, 3)}, []int{0, 1, 2})
}

// P11.1, W0: a node may have very many items, and long ways between them.
func TestManyItems(t *testing.T) {
	const n = 100000
	name := func(i int) string { return "z" + strconv.Itoa(i) }
	var up, down, star, behind api.Node
	var odd, even, order []int
	for i := range n {
		up.Items = append(up.Items, item(variable(name(i-1)), name(i)))
		down.Items = append(down.Items, item(variable(name(i+1)), name(i)))
		star.Items = append(star.Items, item(variable(name(n-1)), name(i)))
		behind.Items = append(behind.Items, item(variable(name(i|1)), name(i)))
		order = append(order, i)
		if i%2 == 0 {
			even = append(even, i+1, i)
		} else {
			odd = append(odd, i)
		}
	}
	check := func(what string, n api.Node, want []int) {
		t.Helper()
		if got, ok := cause.Order(n); !slices.Equal(got, want) || ok != (want != nil) {
			t.Errorf("Order of %s: %v, and not what it has to be", what, ok)
		}
	}
	check("a way up", up, order)
	slices.Reverse(order)
	check("a way down", down, order)
	slices.Reverse(order)
	check("a star around itself", star, nil)
	star.Items[n-1].E = api.Expr{}
	check("a star", star, append([]int{n - 1}, order[:n-1]...))
	check("pairs around themselves", behind, nil)
	for _, b := range odd {
		behind.Items[b].E = api.Expr{}
	}
	check("pairs", behind, even)
}

// R4: a node is not changed, and each answer is new memory.
func TestMemoryOfOrder(t *testing.T) {
	n := program(t, inNode("y = z + w; z = w; w = pre y; (v, u) = two(w, z);")).Nodes[last]
	before, want := show(n), []int{2, 1, 0, 3}
	one, _ := cause.Order(n)
	again, _ := cause.Order(n)
	clear(one[:cap(one)])
	if !slices.Equal(again, want) {
		t.Errorf("%v after a change of another answer, want %v", again, want)
	}
	checkOrder(t, n, want)
	if show(n) != before {
		t.Errorf("%s is changed to %s", before, show(n))
	}
}

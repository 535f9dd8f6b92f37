package cause_test

import (
	"slices"
	"strconv"
	"testing"

	"pendule/api"
	"pendule/cause"
	"pendule/clocks"
	"pendule/first"
	"pendule/sugar"
	"pendule/types"
)

// Nodes that have one fault each: matched has ErrArg, circular has ErrCause at its item 1, untyped has ErrType; sound has none.
const (
	sound    = "node sound (x) = (y) where y = x; end "
	matched  = "node matched (x) = (y) where y = match x (False -> 1 | True -> 2); end "
	circular = "node circular (x) = (y) where y = x; z = z; end "
	untyped  = "node untyped (x) = (y) where y = 1 + true; end "
)

// P11.1: a fault in the names comes ahead of all others, as it is.
func TestScopeFaults(t *testing.T) {
	for _, l := range []struct {
		a, b  int
		texts []string
	}{
		{0, 0, []string{"node f (x) = (y) where y = z; end", "node f (x) = (y) where y = y + z; end", "node f (x) = (y) where y = y when True(z); end"}},
		{0, 1, []string{"node f (x) = (y) where y = y; z = w; end", "node f (x) = (y) where y = y; y = y; end"}},
		{0, -1, []string{"node f (x) = (y) where z = z; end", "node f [f] (x) = (y) where y = y; end"}},
		{-1, 0, []string{"type t = True; " + circular}},
		{1, -1, []string{circular + circular, matched + matched}},
		{2, 0, []string{circular + untyped + "node f (x) = (y) where y = sound(y); end", matched + circular + "node f (x) = (y) where y = y when A(y); end"}},
		{1, 0, []string{circular + "node f (x) = (y) where automaton state S: y = y; until x then T; end; end"}},
	} {
		checkFault(t, api.Fault{Err: api.ErrScope, A: l.a, B: l.b}, l.texts...)
	}
}

// P11.1: a fault of the tree comes with A and B 0.
func TestTreeFaults(t *testing.T) {
	y := variable("y")
	p := program(t, circular+sound)
	put := func(e api.Expr) api.Program {
		q := clone(p)
		q.Nodes[1].Items[0].E = e
		return q
	}
	for _, e := range []api.Expr{{}, variable("y", y), variable("Y"), with(api.Pre), with(api.Pre, y, y), with(api.Fby), with(api.Fby, y), with(api.Arrow, y), with(api.If, y, y),
		with(api.When, y), {Op: api.Merge, Name: "y"}, {Op: api.Merge, Name: "y", Cons: []string{"True"}}, with(api.Every), with(api.Every, y, y), with(api.Mem), with(17), with(-1)} {
		checkProgramFault(t, show(e), put(e), api.Fault{Err: api.ErrField})
	}
	checkProgramFault(t, "no program", api.Program{}, api.Fault{Err: api.ErrField})
	deep := y
	for range api.MaxDepth - 1 {
		deep = with(api.Pre, deep)
	}
	checkProgramFault(t, "the greatest depth", api.Program{Nodes: put(deep).Nodes[1:]}, api.Fault{})
	checkProgramFault(t, "too great a depth", put(with(api.Pre, deep)), api.Fault{Err: api.ErrBound})
}

// P11.1: an automaton or a match, wherever it is, is ErrArg, with A and B 0, ahead of ErrCause.
func TestSugar(t *testing.T) {
	checkFault(t, api.Fault{Err: api.ErrArg}, matched, sound+matched, matched+sound, circular+matched, matched+circular, untyped+matched, circular+untyped+matched,
		"node f (x) = (y) where z = z; y = pre match x (False -> 1 | True -> y); end",
		circular+"node f (x) = (y) where automaton state S: y = 1; end; end",
		"node f (x) = (y) where automaton state S: y = y; until x then T; state T: y = 2; end; z = z; end "+circular)
}

// P11.1: what is wrong with types, clocks or first values of a plain program is not told.
func TestOtherFaults(t *testing.T) {
	const (
		clockless = "node f (x) = (y) where z = 1 when True(x); y = z + x; end "
		open      = "node f (x) = (y) where y = pre pre x; end "
		unused    = "node f [g] (x) = (y) where y = x; end "
	)
	for _, s := range []string{untyped, unused} {
		if _, f := types.Infer(program(t, s)); f.Err != api.ErrType {
			t.Fatalf("%q has types: fault %v", s, f)
		}
	}
	if _, f := clocks.Infer(program(t, clockless)); f.Err != api.ErrClock {
		t.Fatalf("%q has clocks: fault %v", clockless, f)
	}
	if _, f := first.Infer(program(t, open)); f.Err != api.ErrInit {
		t.Fatalf("all is firm in %q that must be: fault %v", open, f)
	}
	for _, s := range []string{untyped, clockless, open, unused} {
		checkFault(t, api.Fault{}, s, sound+s, s+sound)
		checkFault(t, causeFault(1, 1), s+circular)
		checkFault(t, causeFault(0, 1), circular+s)
	}
	checkFault(t, causeFault(0, 0), "node f (x) = (y) where y = y + true; end", "node f (x) = (y) where y = not 1 -> y; end", "node f [g] (x) = (y) where y = y; end")
	checkFault(t, causeFault(0, 2), "node f (x) = (y) where y = x + z; z = pre (x when True(x)); w = z when True(w); end")
}

// P11.1: of several nodes the first one is told that has an item to tell.
func TestFirstNode(t *testing.T) {
	checkFault(t, api.Fault{}, sound, sound+"node f (x) = (y) where y = sound(0 fby y); end")
	checkFault(t, causeFault(0, 1), circular, circular+sound, circular+"node f (x) = (y) where y = y; end")
	checkFault(t, causeFault(1, 1), sound+circular, sound+circular+"node f (x) = (y) where y = y; end")
	checkFault(t, causeFault(1, 2), sound+"node f (x) = (y) where y = z; z = pre y; w = v; v = sound(w); end")
	text := ""
	for i := range api.MaxNodes - 1 {
		text += "node n" + strconv.Itoa(i) + " (x) = (y) where y = 0 fby z; z = y; end "
	}
	checkFault(t, api.Fault{}, text+"node f (x) = (y) where y = n14(z); z = pre y; end")
	checkFault(t, causeFault(api.MaxNodes-1, 0), text+"node f (x) = (y) where y = n14(z); z = y; end")
}

// P11.1: a call reads all of its kids, whether the callee makes use of them or delays them.
func TestCalls(t *testing.T) {
	const head = "node constant (a) = (b) where b = 1; end node later (a, b) = (c, d) where c = 0 fby b; d = pre 1 -> 0; end node use [g] (a) = (b) where b = 0 fby g(b); end "
	for _, items := range []string{"y = constant(y);", "(y, z) = later(x, y);", "(z, y) = later(x, y);", "y = use[constant](y);", "y = constant(x) every y;", "(y, z) = later(1, 2) every z;"} {
		checkFault(t, causeFault(3, 0), head+"node f (x) = (y) where "+items+" end")
	}
	// The variables of one node are not those of another.
	checkFault(t, api.Fault{}, "node f (x) = (y) where y = z; z = x; end node g (z) = (x) where x = y; y = f(z); end node h (y) = (z) where z = g(x); x = y; end")
}

// P11.1, P11.2: a program with generated names is checked as any other, as those that layer 6 makes.
func TestGenerated(t *testing.T) {
	p, f := sugar.Plain(program(t, "type colour = Red | Green; node f (x, c) = (y) where z = match c (Red -> x | Green -> 1); "+
		"automaton state S: y = 0 fby y + z; until y < 3 then T; state T: y = 1; until y = x then S; end; end"))
	if f != (api.Fault{}) {
		t.Fatal(f)
	}
	checkProgramFault(t, "an automaton", p, api.Fault{})
	checkOrder(t, p.Nodes[0], []int{0, 1, 2, 3})
	slices.Reverse(p.Nodes[0].Items)
	checkProgramFault(t, "an automaton", p, api.Fault{})
	checkOrder(t, p.Nodes[0], []int{2, 1, 0, 3})
	// The state must not wait for the next one, nor what a state defines for itself.
	p.Nodes[0].Items[2].E.Kids[0] = variable("_n0")
	checkProgramFault(t, "a state that waits for the next one", p, causeFault(0, 0))
	checkOrder(t, p.Nodes[0], nil)
	p, f = sugar.Plain(program(t, "node f (x, c) = (y) where automaton state S: y = z; z = x; until y then T; state T: z = y; y = x; until z then S; end; end"))
	if f != (api.Fault{}) {
		t.Fatal(f)
	}
	checkProgramFault(t, "an automaton whose states go round", p, causeFault(0, 1))
}

// long returns a program with a node in which each of n variables reads the next one, and the last one is e.
func long(n int, e api.Expr) api.Program {
	f := api.Node{Name: "f", Ins: []string{"x"}, Outs: []string{"_z0"}}
	for i := range n - 1 {
		f.Items = append(f.Items, item(variable("_z"+strconv.Itoa(i+1)), "_z"+strconv.Itoa(i)))
	}
	f.Items = append(f.Items, item(e, "_z"+strconv.Itoa(n-1)))
	return api.Program{Nodes: []api.Node{f}}
}

// P11.1, P11.2: a circle is found along as many variables as the size of a node allows.
func TestLong(t *testing.T) {
	const n = api.MaxSize
	p := long(n, variable("x"))
	checkProgramFault(t, "a long way", p, api.Fault{})
	var order []int
	for i := range n {
		order = append(order, n-1-i)
	}
	checkOrder(t, p.Nodes[0], order)
	checkProgramFault(t, "too long a way", long(n+1, variable("x")), api.Fault{Err: api.ErrBound})
	checkProgramFault(t, "a long way round", long(n, variable("_z0")), causeFault(0, 0))
	checkProgramFault(t, "a long way to a circle", long(n, variable("_z299")), causeFault(0, n-1))
	for _, b := range []int{1, 2, 100, n - 2} {
		p := long(n, variable("_z"+strconv.Itoa(b)))
		checkProgramFault(t, "a long way to a circle", p, causeFault(0, b))
		checkOrder(t, p.Nodes[0], nil)
		slices.Reverse(p.Nodes[0].Items)
		checkProgramFault(t, "a circle ahead of a long way", p, causeFault(0, 0))
	}
	checkProgramFault(t, "a delay on a long way round", long(n-1, with(api.Pre, variable("_z0"))), api.Fault{})
}

// P11.1: what is read is found at the greatest depth.
func TestDeep(t *testing.T) {
	p := program(t, "node f (x) = (y) where z = x; y = x; end")
	deep := func(e api.Expr, levels int) {
		for range levels {
			e = api.Expr{Op: api.Un, Name: "-", Kids: []api.Expr{e}}
		}
		p.Nodes[0].Items[1].E = e
	}
	deep(variable("y"), api.MaxDepth-1)
	checkProgramFault(t, "a deep variable", p, causeFault(0, 1))
	deep(with(api.Pre, variable("y")), api.MaxDepth-2)
	checkProgramFault(t, "a deep delay", p, api.Fault{})
	deep(variable("y"), api.MaxDepth)
	checkProgramFault(t, "too deep a variable", p, api.Fault{Err: api.ErrBound})
}

// R4: a program is not changed.
func TestMemoryOfCheck(t *testing.T) {
	for _, s := range []string{circular, inNode("y = z; (z, w) = two(pre y, x -> y); v = w when A(u); u = v;"), inNode("y = z; z = 0 fby y;"), matched, untyped} {
		p := program(t, s)
		before := show(p)
		want := cause.Check(p)
		checkProgramFault(t, s, p, want)
		if show(p) != before {
			t.Errorf("%s is changed to %s", before, show(p))
		}
	}
}

package streams_test

import (
	"slices"
	"strconv"
	"strings"
	"testing"

	"pendule/api"
	"pendule/first"
	"pendule/streams"
)

// Nodes that have one fault each, at their items 1: matched has ErrArg, untyped has ErrType, clockless has ErrClock and circular has ErrCause; generic has Funs. The node sound has none.
const (
	sound     = "node sound (x) = (y) where y = x; end "
	generic   = "node generic [g] (x) = (y) where y = g(x); end "
	matched   = "node matched (x) = (y) where y = x; z = match x (False -> 1 | True -> 2); end "
	untyped   = "node untyped (x) = (y) where y = x; z = 1 + true; end "
	clockless = "node clockless (x) = (y) where y = x; z = y + 1 when True(c); c = true; end "
	circular  = "node circular (x) = (y) where y = x; z = z; end "
)

// heavy is the text of the nodes h0 to h3, which have the weights 1, 10, 111 and 1000.
var heavy = "node h0 (x) = (y) where y = x; end " +
	"node h1 (x) = (y) where y = " + sum("h0(x)", 9) + "; end " +
	"node h2 (x) = (y) where y = " + sum("h1(x)", 11) + "; end " +
	"node h3 (x) = (y) where y = " + sum("h2(x)", 9) + "; end "

// sum returns the text of n times the summand, added up.
func sum(summand string, n int) string {
	return strings.TrimSuffix(strings.Repeat(summand+" + ", n), " + ")
}

// P13.1: a fault of layer 8 comes ahead of all others, as it is, whatever the node is that is asked for.
func TestTypeFaults(t *testing.T) {
	for _, l := range []struct {
		want  api.Fault
		texts []string
	}{
		{api.Fault{Err: api.ErrScope, A: 0}, []string{"node main (x) = (y) where y = z; end", "node main (x) = (y) where y = main(x); end", "node main (x) = (y) where y = nowhere(x); end " + untyped}},
		{api.Fault{Err: api.ErrScope, A: 1, B: -1}, []string{sound + sound, matched + "node f (x) = (y) where end", clockless + "node clockless (x) = (y) where z = x; end"}},
		{api.Fault{Err: api.ErrScope, A: -1}, []string{"type a = True; " + sound}},
		{api.Fault{Err: api.ErrArg}, []string{matched, sound + matched, untyped + matched, matched + clockless, circular + matched, "node main (x) = (y) where automaton state S: y = x; end; end"}},
		{api.Fault{Err: api.ErrType, B: 1}, []string{untyped, untyped + sound, untyped + generic, untyped + circular, untyped + clockless}},
		{api.Fault{Err: api.ErrType, A: 2, B: 1}, []string{circular + clockless + untyped, sound + generic + untyped, clockless + generic + untyped + circular}},
		{api.Fault{Err: api.ErrType, A: 1, B: -1}, []string{sound + "node main [g] (x) = (y) where y = x; end"}},
		{api.Fault{Err: api.ErrType, A: 4, B: 1}, []string{heavy + untyped}},
	} {
		checkFault(t, l.want, l.texts...)
	}
}

// P13.1: a fault of the tree comes with A and B 0.
func TestTreeFaults(t *testing.T) {
	p := program(t, sound)
	put := func(e api.Expr) api.Program {
		q := clone(p)
		q.Nodes[0].Items[0].E = e
		return q
	}
	x := api.Expr{Op: api.Var, Name: "x"}
	for _, e := range []api.Expr{{}, {Op: api.Mem}, {Op: 17}, {Op: -1}, {Op: api.Pre}, {Op: api.Fby, Kids: []api.Expr{x}}, {Op: api.Arrow}, {Op: api.If, Kids: []api.Expr{x, x}}, {Op: api.When, Name: "x", Kids: []api.Expr{x}},
		{Op: api.Merge, Name: "x"}, {Op: api.Merge, Name: "x", Cons: []string{"True"}}, {Op: api.Call, Name: "sound"}, {Op: api.Every, Kids: []api.Expr{x, x}}, {Op: api.Bool, N: 2}, {Op: api.Int, N: -1},
		{Op: api.Un, Name: "+", Kids: []api.Expr{x}}, {Op: api.Bin, Name: ">", Kids: []api.Expr{x, x}}} {
		checkProgramFault(t, show(e), put(e), "sound", api.Fault{Err: api.ErrField})
		checkProgramFault(t, show(e), put(e), "nowhere", api.Fault{Err: api.ErrField})
	}
	checkProgramFault(t, "no program", api.Program{}, "", api.Fault{Err: api.ErrField})
	deep := x
	for range api.MaxDepth - 1 {
		deep = api.Expr{Op: api.Pre, Kids: []api.Expr{deep}}
	}
	checkProgramFault(t, "too great a depth", put(api.Expr{Op: api.Pre, Kids: []api.Expr{deep}}), "sound", api.Fault{Err: api.ErrBound})
	script := readScript(t, strings.Repeat("5 ", api.MaxDepth))
	if got := showStreams(played(t, put(deep), "sound", script)); got != strings.Repeat("nil ", api.MaxDepth-1)+"5" {
		t.Errorf("the greatest depth: %s", got)
	}
}

// P13.1: a node with Funs, wherever it is, is ErrArg, with A and B 0, ahead of all but the faults of layer 8.
func TestFunFaults(t *testing.T) {
	checkFault(t, api.Fault{Err: api.ErrArg}, generic, sound+generic, generic+sound, generic+clockless, circular+generic, clockless+generic, circular+clockless+generic,
		sound+generic+"node main (x) = (y) where y = generic[sound](x); end", heavy+generic)
	p := program(t, heavy+"node main (x) = (y) where y = h3(x); end "+generic)
	checkProgramFault(t, "a heavy node", p, "main", api.Fault{Err: api.ErrArg})
	checkProgramFault(t, "Funs", p, "generic", api.Fault{Err: api.ErrArg})
}

// P13.1: a node that is not there is ErrIndex, with A and B 0, ahead of what is wrong with clocks or causes.
func TestIndexFaults(t *testing.T) {
	index := api.Fault{Err: api.ErrIndex}
	for _, s := range []string{sound, sound + clockless, circular + sound, clockless + circular, heavy + sound + circular + clockless, "type t = Main; " + sound} {
		for _, node := range []string{"nowhere", "", "Main", "t", "soun", "sounds", "sound ", "x", "y", "_i0", "0", "node"} {
			checkProgramFault(t, s, program(t, s), node, index)
		}
	}
}

// P13.1: a node of a weight above 1000 is ErrBound, with A and B 0, ahead of what is wrong with clocks or causes. All calls count, wherever they are.
func TestWeightFaults(t *testing.T) {
	bound := api.Fault{Err: api.ErrBound}
	for _, s := range []string{"", clockless, circular, circular + clockless} {
		for _, items := range []string{"y = h3(x);", "y = x; z = h3(x);", "y = pre h3(x);", "y = 0 fby h3(x);", "y = h3(x) every false;",
			"y = x; z = h0(h0(h2(x))) every (h2(x) = " + sum("h2(x)", 7) + ");", "y = 0 fby (" + sum("h2(y)", 5) + " + pre (" + sum("h2(y)", 4) + ")); z = h0(x) every true;",
			"y = x; c = false; z = merge c (False -> h2(" + sum("h2(x when False(c))", 3) + ") | True -> " + sum("h2(1 when True(c))", 5) + "); v = h0(x);"} {
			checkProgramFault(t, items, program(t, heavy+s+"node main (x) = (y) where "+items+" end"), "main", bound)
		}
	}
	for n, want := range map[int]api.Fault{0: {}, 1: bound} {
		p := program(t, heavy+"node main (x) = (y) where y = "+sum("h2(x)", 8)+"; z = "+sum("h1(x)", 11)+" + h0(x)"+strings.Repeat(" + h0(x)", n)+"; end")
		if _, f := streams.New(p, "main"); f != want {
			t.Errorf("the weight %d: fault %v, want %v", 1000+n, f, want)
		}
	}
	// What is not called does not count.
	p := program(t, heavy+"node main (x) = (y) where y = h3(x); end node light (x) = (y) where y = "+sum("h2(x)", 5)+"; end")
	checkProgramFault(t, "a heavier node", p, "main", bound)
	for node, want := range map[string]string{"h0": "1 -2", "h3": "891 -1782", "light": "495 -990"} {
		if got := showStreams(played(t, p, node, [][]int64{{1}, {-2}})); got != want {
			t.Errorf("%s: %s, want %s", node, got, want)
		}
	}
}

// P13.1, W0: weights may be too great for any integer. With 128 calls in a node they would come out below 0, if there were 64 bits for them.
func TestVeryGreatWeights(t *testing.T) {
	for _, calls := range []int{1, 2, 3, 4, 16, 32, 36} {
		s := "node n0 (x) = (y) where y = x; end "
		for k := range api.MaxNodes - 1 {
			right := strings.Repeat("n"+strconv.Itoa(k)+"(", calls) + "x" + strings.Repeat(")", calls)
			s += "node n" + strconv.Itoa(k+1) + " (x) = (y) where y = x; a = " + right + "; b = " + right + "; c = " + right + "; d = " + right + "; end "
		}
		p := program(t, s)
		for k, n := range p.Nodes {
			_, got := streams.New(p, n.Name)
			if want := judgedFault(p, n.Name); got != want || k > 4 && want.Err != api.ErrBound {
				t.Errorf("%d calls in each item, node %d: fault %v, want %v", calls, k, got, want)
			}
		}
	}
}

// P13.1: a node without clocks, whether it is called or not, is ErrClock where it is, ahead of all ErrCauses.
func TestClockFaults(t *testing.T) {
	fault := func(a int) api.Fault { return api.Fault{Err: api.ErrClock, A: a, B: 1} }
	for k, s := range []string{clockless + sound + circular, sound + clockless + circular, circular + sound + clockless} {
		checkProgramFault(t, s, program(t, s), "sound", fault(k))
		checkProgramFault(t, s, program(t, s), "circular", fault(k))
		checkProgramFault(t, s, program(t, s), "clockless", fault(k))
	}
	checkProgramFault(t, clockless, program(t, clockless), "nowhere", api.Fault{Err: api.ErrIndex})
}

// P13.1: a circle, whether it is called or not, is ErrCause where it is.
func TestCauseFaults(t *testing.T) {
	fault := func(a int) api.Fault { return api.Fault{Err: api.ErrCause, A: a, B: 1} }
	for k, s := range []string{circular + sound, sound + circular} {
		checkProgramFault(t, s, program(t, s), "sound", fault(k))
		checkProgramFault(t, s, program(t, s), "circular", fault(k))
	}
	for _, items := range []string{"z = x; y = y + 1;", "z = x; y = 0 -> y;", "z = x; y = y fby x;", "z = x; y = total(y);", "z = x; y = total(x) every (y = 1);", "z = x; y = if true then x else y;"} {
		p := program(t, prelude+"node main (x) = (y) where "+items+" end")
		checkProgramFault(t, items, p, "main", fault(last))
		checkProgramFault(t, items, p, "count", fault(last))
	}
}

// P13.1: what layer 10 reports does not stand against playing a node.
func TestNoInitFaults(t *testing.T) {
	for _, items := range []string{"y = pre x;", "y = pre pre x;", "y = count(pre x);", "y = merge z (False -> 1 | True -> 2); z = pre true;", "y = x fby pre x;"} {
		p := program(t, prelude+"node main (x) = (y) where "+items+" end")
		if _, f := first.Infer(p); f.Err != api.ErrInit {
			t.Errorf("%q: fault %v", items, f)
		}
		begun(t, p, "main")
	}
}

// P13.1: the faults of Run are those of New, then a row that Step refuses, wherever it is, then too many rows.
func TestRunFaults(t *testing.T) {
	p := program(t, sound+"node main (x, c) = (y) where y = if c then x else 0; end")
	rows := func(n int, row ...int64) [][]int64 { return slices.Repeat([][]int64{row}, n) }
	for _, l := range []struct {
		script [][]int64
		want   api.Errno
	}{
		{nil, api.OK}, {rows(1, 1, 1), api.OK}, {rows(api.MaxSteps, 1, 0), api.OK}, {rows(api.MaxSteps+1, 1, 0), api.ErrBound}, {rows(1000, 1, 0), api.ErrBound},
		{rows(1, 1, 2), api.ErrArg}, {rows(1), api.ErrArg}, {rows(1, 1), api.ErrArg}, {rows(1, 1, 1, 1), api.ErrArg}, {rows(api.MaxSteps+1, 1, -1), api.ErrArg}, {rows(api.MaxSteps + 1), api.ErrArg},
		{append(rows(10, 1, 1), []int64{1, 2}), api.ErrArg}, {append(rows(api.MaxSteps, 1, 1), []int64{1, 2}), api.ErrArg}, {append(rows(1000, 1, 1), []int64{1}), api.ErrArg},
		{append(rows(1, 1, 5), rows(api.MaxSteps, 1, 1)...), api.ErrArg},
	} {
		got, f := streams.Run(p, "main", l.script)
		if f != (api.Fault{Err: l.want}) || l.want != api.OK && len(got) > 0 || l.want == api.OK && len(got) != len(l.script) {
			t.Errorf("Run with %d rows: %d rows, fault %v, want %d", len(l.script), len(got), f, l.want)
		}
	}
}

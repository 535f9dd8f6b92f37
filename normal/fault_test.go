package normal_test

import (
	"testing"

	"pendule/api"
	"pendule/first"
)

// Nodes that have one fault each, at their items 1: matched has ErrArg, untyped has ErrType, clockless has ErrClock and circular has ErrCause; generic has Funs. The node sound has none.
const (
	sound     = "node sound (x) = (y) where y = x; end "
	generic   = "node generic [g] (x) = (y) where y = g(x); end "
	matched   = "node matched (x) = (y) where y = x; z = match x (False -> 1 | True -> 2); end "
	untyped   = "node untyped (x) = (y) where y = x; z = 1 + true; end "
	clockless = "node clockless (x) = (y) where y = x; z = y + 1 when True(c); c = true; end "
	circular  = "node circular (x) = (y) where y = x; z = z; end "
)

// P14.1: a fault of layer 8 comes ahead of all others, as it is.
func TestTypeFaults(t *testing.T) {
	for _, l := range []struct {
		want  api.Fault
		texts []string
	}{
		{api.Fault{Err: api.ErrScope, A: 0}, []string{"node main (x) = (y) where y = z; end", "node main (x) = (y) where y = main(x); end", "node main (x) = (y) where y = nowhere(x); end " + untyped}},
		{api.Fault{Err: api.ErrScope, A: 1, B: -1}, []string{sound + sound, matched + "node f (x) = (y) where end", clockless + "node clockless (x) = (y) where z = x; end", generic + "node f [f] (x) = (y) where y = x; end"}},
		{api.Fault{Err: api.ErrScope, A: -1}, []string{"type a = True; " + sound}},
		{api.Fault{Err: api.ErrArg}, []string{matched, sound + matched, untyped + matched, matched + clockless, circular + matched, matched + generic, "node main (x) = (y) where automaton state S: y = x; end; end"}},
		{api.Fault{Err: api.ErrType, B: 1}, []string{untyped, untyped + sound, untyped + generic, untyped + circular, untyped + clockless}},
		{api.Fault{Err: api.ErrType, A: 2, B: 1}, []string{circular + clockless + untyped, sound + generic + untyped, clockless + generic + untyped + circular}},
		{api.Fault{Err: api.ErrType, A: 1, B: -1}, []string{sound + "node main [g] (x) = (y) where y = x; end"}},
	} {
		checkFault(t, l.want, l.texts...)
	}
}

// P14.1: a fault of the tree comes with A and B 0.
func TestTreeFaults(t *testing.T) {
	p := program(t, sound)
	put := func(e api.Expr) api.Program {
		q := clone(p)
		q.Nodes[0].Items[0].E = e
		return q
	}
	x := api.Expr{Op: api.Var, Name: "x"}
	for _, e := range []api.Expr{{}, {Op: api.Mem}, {Op: 17}, {Op: -1}, {Op: api.Pre}, {Op: api.Fby, Kids: []api.Expr{x}}, {Op: api.Arrow}, {Op: api.If, Kids: []api.Expr{x, x}}, {Op: api.When, Name: "x", Kids: []api.Expr{x}},
		{Op: api.Merge, Name: "x"}, {Op: api.Merge, Name: "x", Cons: []string{"True"}}, {Op: api.Call, Name: "sound"}, {Op: api.Every, Kids: []api.Expr{x, x}}, {Op: api.Every}, {Op: api.Bool, N: 2}, {Op: api.Int, N: -1},
		{Op: api.Un, Name: "+", Kids: []api.Expr{x}}, {Op: api.Bin, Name: ">", Kids: []api.Expr{x, x}}} {
		checkProgramFault(t, show(e), put(e), api.Fault{Err: api.ErrField})
	}
	checkProgramFault(t, "no program", api.Program{}, api.Fault{Err: api.ErrField})
	deep := x
	for range api.MaxDepth - 1 {
		deep = api.Expr{Op: api.Pre, Kids: []api.Expr{deep}}
	}
	checkProgramFault(t, "too great a depth", put(api.Expr{Op: api.Pre, Kids: []api.Expr{deep}}), api.Fault{Err: api.ErrBound})
	unnamed := clone(p)
	unnamed.Nodes[0].Items[0].Names = nil
	checkProgramFault(t, "an item without a name", unnamed, api.Fault{Err: api.ErrField})
}

// P14.1: a node with Funs, wherever it is, is ErrArg, with A and B 0, ahead of all but the faults of layer 8.
func TestFunFaults(t *testing.T) {
	checkFault(t, api.Fault{Err: api.ErrArg}, generic, sound+generic, generic+sound, generic+clockless, circular+generic, clockless+generic, circular+clockless+generic,
		sound+generic+"node main (x) = (y) where y = generic[sound](x); end")
}

// P14.1: a node without clocks is ErrClock where it is, ahead of all ErrCauses.
func TestClockFaults(t *testing.T) {
	for k, s := range []string{clockless + sound + circular, sound + clockless + circular, circular + sound + clockless} {
		checkFault(t, api.Fault{Err: api.ErrClock, A: k, B: 1}, s)
	}
	checkFault(t, api.Fault{Err: api.ErrClock, A: 1, B: 0}, sound+"node main (x) = (y) where y = x when True(c); c = c; end")
}

// P14.1: a circle, whether it is called or not, is ErrCause where it is.
func TestCauseFaults(t *testing.T) {
	for k, s := range []string{circular + sound, sound + circular, sound + "node two (x) = (y) where y = x; end " + circular} {
		checkFault(t, api.Fault{Err: api.ErrCause, A: k, B: 1}, s)
	}
	for _, items := range []string{"z = x; y = y + 1;", "z = x; y = 0 -> y;", "z = x; y = y fby x;", "z = x; y = id(y);", "z = x; y = id(x) every (y = 1);", "z = x; y = if true then x else y;", "z = d; y = merge z (False -> y when False(z) | True -> 1);"} {
		checkFault(t, api.Fault{Err: api.ErrCause, A: 2, B: 1}, inNode(items))
	}
}

// P14.1: what layer 10 reports does not stand against normalizing a program.
func TestNoInitFaults(t *testing.T) {
	for _, items := range []string{"y = pre x;", "y = pre pre x;", "y = id(pre x);", "y = merge z (False -> 1 | True -> 2); z = pre true;", "y = x fby pre x;"} {
		p := program(t, inNode(items))
		if _, f := first.Infer(p); f.Err != api.ErrInit {
			t.Errorf("%q: fault %v", items, f)
		}
		made(t, p)
	}
}

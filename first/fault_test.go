package first_test

import (
	"slices"
	"strconv"
	"strings"
	"testing"

	"pendule/api"
	"pendule/clocks"
	"pendule/first"
	"pendule/sugar"
	"pendule/types"
)

// What has one fault each: node one has ErrArg, node none has ErrInit at its item 0, and node untyped has ErrType.
const (
	plain   = "node plain (x) = (y) where y = x; end "
	match   = "node one (x) = (y) where y = match x (False -> 1 | True -> 2); end "
	none    = "node none (x) = (y) where y = 0 fby pre x; end "
	untyped = "node untyped (x) = (y) where y = 1 + true; end "
)

// P10.1: the faults of the names of a program are returned as they are, ahead of all others.
func TestScopeFaults(t *testing.T) {
	scopeFault := func(a, b int) api.Fault { return api.Fault{Err: api.ErrScope, A: a, B: b} }
	checkFault(t, scopeFault(0, 0), "node f (x) = (y) where y = z; end", "node f (x) = (y) where y = pre pre z; end", "node f (x) = (y) where y = match z (False -> 1 | True -> 2); end", "node f (x) = (y) where y = x when True(z); end")
	checkFault(t, scopeFault(0, -1), "node f (x) = (y) where end", "node f [f] (x) = (y) where y = pre pre x; end")
	checkFault(t, scopeFault(-1, 1), "type a = A; type b = A; "+none)
	checkFault(t, scopeFault(2, 1), none+untyped+"node f (x) = (y) where y = x; z = w; end")
	checkFault(t, scopeFault(3, 0), none+match+plain+"node f (x) = (y) where y = plain(x, x); end")
	checkFault(t, scopeFault(1, 0), none+"node f (x) = (y) where automaton state A: y = 1; until x then B; end; end", none+"type t = A | B; node f (x) = (y) where y = merge x (A -> 1); end")
}

// P10.1: the faults of the tree of a program are returned as they are, with A and B 0.
func TestTreeFaults(t *testing.T) {
	field, bound := api.Fault{Err: api.ErrField}, api.Fault{Err: api.ErrBound}
	checkProgramFault(t, "no program", api.Program{}, field)
	wrong := func(e api.Expr) api.Program {
		p := program(t, none+plain)
		p.Nodes[1].Items[0].E = e
		return p
	}
	x := api.Expr{Op: api.Var, Name: "x"}
	for _, e := range []api.Expr{{}, {Op: api.Mem}, {Op: 17}, {Op: -1}, {Op: api.Un, Name: "-"}, {Op: api.Bin, Name: "=", Kids: []api.Expr{x}}, {Op: api.If, Kids: []api.Expr{x}}, {Op: api.Fby}, {Op: api.Fby, Kids: []api.Expr{x}},
		{Op: api.Pre}, {Op: api.Pre, Kids: []api.Expr{x, x}}, {Op: api.Arrow}, {Op: api.Arrow, Kids: []api.Expr{x}}, {Op: api.Merge, Name: "x"}, {Op: api.When, Name: "x", Cons: []string{"True"}},
		{Op: api.Call, Name: "none"}, {Op: api.Every, Kids: []api.Expr{x, x}}, {Op: api.Every}, {Op: api.Every, Kids: []api.Expr{{Op: api.Call, Name: "none", Kids: []api.Expr{x}}}}} {
		checkProgramFault(t, "a tree", wrong(e), field)
	}
	deep := x
	for range api.MaxDepth {
		deep = api.Expr{Op: api.Un, Name: "-", Kids: []api.Expr{deep}}
	}
	checkProgramFault(t, "a deep tree", wrong(deep), bound)
	checkProgramFault(t, "many nodes", program17(), field)
}

// program17 returns a program with a node more than there may be.
func program17() api.Program {
	var p api.Program
	for i := range api.MaxNodes + 1 {
		p.Nodes = append(p.Nodes, api.Node{Name: "n" + strconv.Itoa(i), Ins: []string{"x"}, Outs: []string{"y"}, Items: []api.Item{item("y", api.Expr{Op: api.Pre, Kids: []api.Expr{{Op: api.Var, Name: "x"}}})}})
	}
	return p
}

// P10.1: an automaton and a match, wherever they are, are ErrArg, with A and B 0, ahead of ErrInit.
func TestSugar(t *testing.T) {
	checkFault(t, api.Fault{Err: api.ErrArg}, match, plain+match, match+plain, none+match, match+none, untyped+match,
		"node f (x) = (y) where z = pre pre x; y = z + match x (False -> 1 | True -> 2); end",
		"node f (x) = (y) where y = pre x; z = merge x (False -> 1 | True -> pre match x (False -> 1 | True -> 2)); end",
		none+"node f (x) = (y) where automaton state A: y = 1; until x then B; state B: y = 2; until true then A; end; end",
		"node f (x) = (y) where automaton state A: y = 1; end; z = pre pre y; end")
}

// P10.1: a plain program has open variables, or something open that must be firm, whether it has types and clocks or not.
func TestWithoutTypes(t *testing.T) {
	for _, x := range []struct{ text, want string }{
		{untyped, "x y"},
		{"type t = A | B; node f (x, c) = (y) where z = pre c + true; y = not 1 < merge c (A -> x when A(c) | B -> 0 -> z); end", "x c z? y"},
		{"node f [g] (x) = (y) where z = 1 when True(x); y = x; w = 1 + pre true; end", "x z y w?"},
		{"node g (x) = (y, z) where y = x; z = x; end node h [k] (x) = (y) where y = k(x); end node f (x) = (y) where y = h[g](x); z = pre z -> z; z2 = pre y; end", ""},
		{"node f [g] (x) = (y) where y = g(x, 1); z = g(0 -> pre x); end", "x y z"},
	} {
		p := program(t, x.text)
		if _, f := types.Infer(p); f.Err != api.ErrType {
			t.Fatalf("Infer(%q) of layer 8: fault %v", x.text, f)
		}
		if x.want == "" {
			checkProgramFault(t, x.text, p, initFault(2, 1))
		} else if got := showAll(t, p); got != x.want {
			t.Errorf("Infer(%q): %s, want %s", x.text, got, x.want)
		}
	}
	checkFault(t, initFault(0, 1), "node f [g] (x) = (y) where z = 1 + true; y = pre (z + pre x); end", "node f (x) = (y) where y = x + true; z = 0 fby pre true; end")
	checkFault(t, initFault(0, -1), "node f (x) = (y) where y = pre (x + true); end")
	checkFault(t, initFault(1, 0), untyped+none, untyped+none+plain, "node f [g] (x) = (y) where y = 1; end "+none)
	const clockless = "node f (x) = (y) where z = x + (pre x when True(x)); y = x when False(x); end"
	if _, f := clocks.Infer(program(t, clockless)); f.Err != api.ErrClock {
		t.Fatalf("Infer(%q) of layer 9: fault %v", clockless, f)
	}
	checkAll(t, clockless, "x z? y")
}

// P10.1: of several nodes with a violation the first one is told.
func TestFirstNode(t *testing.T) {
	checkFault(t, initFault(0, 0), none, none+plain, none+untyped, none+"node f (x) = (y) where y = pre pre x; end")
	checkFault(t, initFault(0, -1), "node f (x) = (y) where y = pre x; end "+none)
	checkFault(t, initFault(1, 0), plain+none, plain+none+"node f (x) = (y) where y = pre x; end")
	checkFault(t, initFault(2, 1), plain+untyped+"node f (x) = (y) where y = plain(x); z = plain(y when True(w)); w = pre y; end "+none)
	text := ""
	for i := range api.MaxNodes - 1 {
		text += "node n" + strconv.Itoa(i) + " (x) = (y) where y = x; z = pre y; end "
	}
	checkFault(t, initFault(api.MaxNodes-1, 1), text+"node f (x) = (y) where y = n14(x); z = n3(y) + n2(pre x); end")
	checkFault(t, initFault(api.MaxNodes-1, -1), text+"node f (x) = (y) where y = z; z = n3(x) + pre n2(x); end")
	checkAll(t, text+"node f (x) = (y) where y = z -> w; z = n3(y); w = pre n2(x); end", strings.Repeat("x y z? / ", api.MaxNodes-1)+"x y z w?")
}

// P10.1: the open variables of a node do not depend on the other nodes: what a call returns is firm.
func TestNodesApart(t *testing.T) {
	checkAll(t, "node f (x, c) = (y) where z = pre x; y = 0 -> z; w = z; end node g (w, z) = (c) where x = pre z; c = f(w, y); y = f(1, 2); end node h (x) = (y) where y = g(y, x); w = g(0 -> z, 1); z = pre w; end",
		"x c z? y w? / w z x? c y / x y w z?")
}

// P10.1: a program with generated names has an answer, as those that layer 6 makes.
func TestGenerated(t *testing.T) {
	p := program(t, "type colour = Red | Green; node f (x, c) = (y) where z = match c (Red -> x | Green -> 1); "+
		"automaton state A: y = 0 fby y + z; until x < 3 then B; state B: y = 1; until y = x then A; end; end")
	plain, f := sugar.Plain(p)
	if f != (api.Fault{}) {
		t.Fatal(f)
	}
	plain.Nodes[0].Items = append(plain.Nodes[0].Items, item("_v", api.Expr{Op: api.Pre, Kids: []api.Expr{{Op: api.Var, Name: "_n0"}}}))
	if got, want := showAll(t, plain), "x c z _s0 y _n0 _v?"; got != want {
		t.Errorf("%s, want %s", got, want)
	}
	plain.Nodes[0].Items[2].E.Kids[1] = api.Expr{Op: api.Var, Name: "_v"}
	checkProgramFault(t, "an automaton with a wrong item", plain, initFault(0, 2))
}

func item(name string, e api.Expr) api.Item {
	return api.Item{Eq: api.Eq{Names: []string{name}, E: e}}
}

// long returns a program with a node in which each of n variables is the next one, and the last one is e.
func long(n int, e api.Expr) api.Program {
	p := api.Program{Nodes: []api.Node{{Name: "f", Ins: []string{"x"}, Outs: []string{"y"}}}}
	l := &p.Nodes[0].Items
	for i := range n - 1 {
		*l = append(*l, item("_z"+strconv.Itoa(i), api.Expr{Op: api.Var, Name: "_z" + strconv.Itoa(i+1)}))
	}
	*l = append(*l, item("_z"+strconv.Itoa(n-1), e), item("y", api.Expr{Op: api.Var, Name: "x"}))
	return p
}

// P10.1, P10.2: what a pre opens is found along as many variables as the size of a node allows, in whatever order.
func TestLong(t *testing.T) {
	const n = api.MaxSize - 2
	x := api.Expr{Op: api.Var, Name: "x"}
	for _, e := range []api.Expr{{Op: api.Pre, Kids: []api.Expr{x}}, {Op: api.Var, Name: "_z0"}} {
		size := n
		if e.Op == api.Var {
			size++
		}
		p, want := long(size, e), "x"
		for i := range size {
			want += " _z" + strconv.Itoa(i)
			if e.Op == api.Pre {
				want += "?"
			}
		}
		want = want[2:] + " y"
		if got := showAll(t, p); got != "x "+want {
			t.Errorf("%s, want x %s", got, want)
		}
		slices.Reverse(p.Nodes[0].Items)
		words := strings.Fields(want)
		slices.Reverse(words)
		if got := showAll(t, p); got != "x "+strings.Join(words, " ") {
			t.Errorf("%s, want x %s", got, strings.Join(words, " "))
		}
		checkProgramFault(t, "too large a program", long(size+1, e), api.Fault{Err: api.ErrBound})
	}
	p := long(n, api.Expr{Op: api.Pre, Kids: []api.Expr{x}})
	p.Nodes[0].Items[n].E.Name = "_z0"
	checkProgramFault(t, "a long way to an Out", p, initFault(0, -1))
}

// P10.1: a violation is found at the greatest depth, and an expression may be open as deep.
func TestDeep(t *testing.T) {
	x := api.Expr{Op: api.Var, Name: "x"}
	nested := func(e api.Expr, levels int) api.Expr {
		for range levels {
			e = api.Expr{Op: api.Un, Name: "-", Kids: []api.Expr{e}}
		}
		return e
	}
	pre := func(e api.Expr) api.Expr { return api.Expr{Op: api.Pre, Kids: []api.Expr{e}} }
	p := program(t, "node f (x) = (y) where y = x; z = x; end")
	p.Nodes[0].Items[1].E = nested(pre(x), api.MaxDepth-2)
	if got, want := showAll(t, p), "x y z?"; got != want {
		t.Errorf("%s, want %s", got, want)
	}
	p.Nodes[0].Items[1].E = nested(pre(pre(x)), api.MaxDepth-3)
	checkProgramFault(t, "a violation at the greatest depth", p, initFault(0, 1))
	p.Nodes[0].Items[1].E = pre(nested(pre(x), api.MaxDepth-3))
	checkProgramFault(t, "a violation over the greatest depth", p, initFault(0, 1))
	p.Nodes[0].Items[1].E = nested(pre(x), api.MaxDepth-1)
	checkProgramFault(t, "too deep an expression", p, api.Fault{Err: api.ErrBound})
}

// R4: a program is not changed, and no two lists of an answer share memory.
func TestMemory(t *testing.T) {
	p := program(t, inNode("y = x; z = pre x when A(c); w = z; (v, u) = two(0 -> z, x -> w); r = 1 when A(v); s = r -> w;"))
	before := clone(p)
	changed, again := inferred(t, p), inferred(t, p)
	want := show(again)
	for k := range changed {
		l := changed[k][:cap(changed[k])]
		for i := range l {
			l[i] = true
		}
		for j := k + 1; j < len(changed); j++ {
			if show(changed[j]) != show(again[j]) {
				t.Fatalf("the answer for the node %d is %v after a change of that for %d, want %v", j, changed[j], k, again[j])
			}
		}
	}
	if got := show(again); got != want {
		t.Errorf("%s after a change of another answer, want %s", got, want)
	}
	if show(p) != show(before) {
		t.Errorf("%s is changed to %s", show(before), show(p))
	}
	if l, f := first.Infer(p); f != (api.Fault{}) || show(l) != want {
		t.Errorf("%s by a later call, want %s", show(l), want)
	}
}

package clocks_test

import (
	"slices"
	"strconv"
	"strings"
	"testing"

	"pendule/api"
	"pendule/clocks"
	"pendule/sugar"
	"pendule/types"
)

// What has one fault each: node one has ErrArg, node none has ErrClock at its item 0, and node untyped has ErrType.
const (
	plain   = "node plain (x) = (y) where y = x; end "
	match   = "node one (x) = (y) where y = match x (False -> 1 | True -> 2); end "
	none    = "node none (x) = (y) where y = x when True(x); end "
	untyped = "node untyped (x) = (y) where y = 1 + true; end "
)

// P9.1: the faults of the names of a program are returned as they are, ahead of all others.
func TestScopeFaults(t *testing.T) {
	scopeFault := func(a, b int) api.Fault { return api.Fault{Err: api.ErrScope, A: a, B: b} }
	checkFault(t, scopeFault(0, 0), "node f (x) = (y) where y = z; end", "node f (x) = (y) where y = 1 when True(z); end", "node f (x) = (y) where y = match z (False -> 1 | True -> 2); end")
	checkFault(t, scopeFault(0, -1), "node f (x) = (y) where end", "node f [f] (x) = (y) where y = x when True(x); end")
	checkFault(t, scopeFault(-1, 1), "type a = A; type b = A; "+none)
	checkFault(t, scopeFault(2, 1), none+untyped+"node f (x) = (y) where y = x; z = w; end")
	checkFault(t, scopeFault(3, 0), none+match+plain+"node f (x) = (y) where y = plain(x, x); end")
	checkFault(t, scopeFault(1, 0), none+"node f (x) = (y) where automaton state A: y = 1; until x then B; end; end", none+"type t = A | B; node f (x) = (y) where y = merge x (A -> 1); end")
}

// P9.1: the faults of the tree of a program are returned as they are, with A and B 0.
func TestTreeFaults(t *testing.T) {
	field, bound := api.Fault{Err: api.ErrField}, api.Fault{Err: api.ErrBound}
	checkProgramFault(t, "no program", api.Program{}, field)
	wrong := func(e api.Expr) api.Program {
		p := program(t, none+plain)
		p.Nodes[1].Items[0].E = e
		return p
	}
	x := api.Expr{Op: api.Var, Name: "x"}
	for _, e := range []api.Expr{{}, {Op: api.Mem}, {Op: 17}, {Op: -1}, {Op: api.Un, Name: "-"}, {Op: api.Bin, Name: "=", Kids: []api.Expr{x}}, {Op: api.If, Kids: []api.Expr{x}}, {Op: api.Fby},
		{Op: api.Merge, Name: "x"}, {Op: api.Merge, Name: "x", Cons: []string{"False", "True"}, Kids: []api.Expr{x}}, {Op: api.When, Name: "x", Kids: []api.Expr{x}}, {Op: api.When, Name: "x", Cons: []string{"True"}},
		{Op: api.When, Name: "x", Cons: []string{"True", "True"}, Kids: []api.Expr{x}}, {Op: api.Call, Name: "none"}, {Op: api.Every, Kids: []api.Expr{x, x}}, {Op: api.Every}} {
		checkProgramFault(t, "a tree", wrong(e), field)
	}
	deep := x
	for range api.MaxDepth {
		deep = api.Expr{Op: api.Un, Name: "-", Kids: []api.Expr{deep}}
	}
	checkProgramFault(t, "a deep tree", wrong(deep), bound)
}

// P9.1: an automaton and a match, wherever they are, are ErrArg, with A and B 0, ahead of ErrClock.
func TestSugar(t *testing.T) {
	checkFault(t, api.Fault{Err: api.ErrArg}, match, plain+match, match+plain, none+match, match+none, untyped+match,
		"node f (x) = (y) where z = x when True(x); y = z + match x (False -> 1 | True -> 2); end",
		"node f (x) = (y) where y = x when True(x); z = merge x (False -> 1 | True -> pre match x (False -> 1 | True -> 2)); end",
		none+"node f (x) = (y) where automaton state A: y = 1; until x then B; state B: y = 2; until true then A; end; end",
		"node f (x) = (y) where automaton state A: y = 1; end; z = y + (x when True(y)); end")
}

// P9.1: a plain program has clocks, or none, whether it has types or not.
func TestWithoutTypes(t *testing.T) {
	for _, x := range []struct{ text, want string }{
		{untyped, "x y"},
		{"type t = A | B; node f (x, c) = (y) where z = c + true; y = not 1 < merge c (A -> x when A(c) | B -> x when B(c)); end", "x c z y"},
		{"type t = A | B; type u = C | D; node f (x, c) = (y) where z = x when A(c); w = x when C(c); v = true + w; y = x; end", "x c z:c=A w:c=C v:c=C y"},
		{"node f [g] (x) = (y) where z = 1 when True(x); y = x; end", "x z:x=True y"},
		{"node g (x) = (y, z) where y = x; z = x; end node h [k] (x) = (y) where y = k(x); end node f (x) = (y) where y = h[g](x); z = pre z; end", "x y z"},
		{"node f [g] (x) = (y) where y = g(x, 1); z = g(x when True(x)); end", "x y z:x=True"},
	} {
		p := program(t, x.text)
		if _, f := types.Infer(p); f.Err != api.ErrType {
			t.Fatalf("Infer(%q) of layer 8: fault %v", x.text, f)
		}
		l := inferred(t, p)
		if got := showVars(l[len(l)-1]); got != x.want {
			t.Errorf("Infer(%q): %s, want %s", x.text, got, x.want)
		}
	}
	checkFault(t, clockFault(0, 1), "node f [g] (x) = (y) where z = 1 + true; y = z when True(x); end", "node f (x) = (y) where y = x + true; z = (x when True(x)) + 1 + x; end")
	checkFault(t, clockFault(1, 0), untyped+none, untyped+none+plain, "node f [g] (x) = (y) where y = 1; end "+none)
}

// P9.1: of several nodes without clocks the first one is told.
func TestFirstNode(t *testing.T) {
	checkFault(t, clockFault(0, 0), none, none+plain, none+untyped, none+"node f (x) = (y) where y = 1 when True(y); end")
	checkFault(t, clockFault(1, 0), plain+none, plain+none+"node f (x) = (y) where y = x when False(x); end")
	checkFault(t, clockFault(2, 1), plain+untyped+"node f (x) = (y) where y = plain(x); z = plain(y when True(x)) + y; end "+none)
	text := ""
	for i := range api.MaxNodes - 1 {
		text += "node n" + strconv.Itoa(i) + " (x) = (y) where y = x; z = x when True(y); end "
	}
	checkFault(t, clockFault(api.MaxNodes-1, 1), text+"node f (x) = (y) where y = n14(x); z = n3(y when True(x)) + n2(x when False(x)); end")
}

// P9.1: the clocks of a node do not depend on the other nodes.
func TestNodesApart(t *testing.T) {
	l := inferred(t, program(t, "type t = A | B; node f (x, c) = (y) where z = x when A(c); y = merge c (A -> w | B -> 1); w = z; end "+
		"node g (w, z) = (c) where x = z when B(z); c = y + f(w, z); y = f(1, 2); end node h (x) = (y) where y = g(y, x); w = z when True(z); z = f(z, z); end"))
	if got, want := showAll(l), "x c z:c=A y w:c=A\nw z x:z=B c y\nx y w:z=True z"; got != want {
		t.Errorf("%q, want %q", got, want)
	}
}

// P9.1: a program with generated names has clocks, as those that layer 6 makes.
func TestGenerated(t *testing.T) {
	p := program(t, "type colour = Red | Green; node f (x, c) = (y) where z = match c (Red -> x | Green -> 1); "+
		"automaton state A: y = 0 fby y + z; until x < 3 then B; state B: y = 1; until y = x then A; end; end")
	plain, f := sugar.Plain(p)
	if f != (api.Fault{}) {
		t.Fatal(f)
	}
	plain.Nodes[0].Items = append(plain.Nodes[0].Items, item("_v", api.Expr{Op: api.When, Name: "_s0", Cons: []string{"B"}, Kids: []api.Expr{{Op: api.Var, Name: "_n0"}}}))
	if got, want := showAll(inferred(t, plain)), "x c z _s0 y _n0 _v:_s0=B"; got != want {
		t.Errorf("%s, want %s", got, want)
	}
	plain.Nodes[0].Items[2].E.Kids[1] = api.Expr{Op: api.Var, Name: "x"}
	checkProgramFault(t, "an automaton with a wrong item", plain, clockFault(0, 2))
}

func item(name string, e api.Expr) api.Item {
	return api.Item{Eq: api.Eq{Names: []string{name}, E: e}}
}

// long returns a program with a node in which each of n variables is sampled by the next one, and the last one by an In: so that the first one has the longest clock, which is known last.
func long(n int) api.Program {
	p := api.Program{Enums: []api.Enum{{Name: "t", Cons: []string{"A"}}}, Nodes: []api.Node{{Name: "f", Ins: []string{"x"}, Outs: []string{"y"}}}}
	l := &p.Nodes[0].Items
	for i := range n {
		by := "_z" + strconv.Itoa(i+1)
		if i == n-1 {
			by = "x"
		}
		*l = append(*l, item("_z"+strconv.Itoa(i), api.Expr{Op: api.When, Name: by, Cons: []string{"A"}, Kids: []api.Expr{{Op: api.Con, Name: "A"}}}))
	}
	*l = append(*l, item("y", api.Expr{Op: api.Var, Name: "x"}))
	return p
}

// P9.1: clocks may be as long as the size of a node allows, in whatever order they are found.
func TestLongClocks(t *testing.T) {
	const n = (api.MaxSize - 1) / 2
	p := long(n)
	for range 2 {
		vars := inferred(t, p)[0]
		slices.SortFunc(vars, func(a, b api.Named) int { return len(b.Clock) - len(a.Clock) })
		for i, v := range vars[:n] {
			path := "x=A"
			for k := n - 1; k > i; k-- {
				path += ",_z" + strconv.Itoa(k) + "=A"
			}
			if got, want := showVars([]api.Named{v}), "_z"+strconv.Itoa(i)+":"+path; got != want {
				t.Fatalf("%s, want %s", got, want)
			}
		}
		slices.Reverse(p.Nodes[0].Items)
	}
	p.Nodes[0].Items[n-1].E.Name = "_z0"
	checkProgramFault(t, "a long circle", p, clockFault(0, n-1))
	checkProgramFault(t, "too large a program", long(n+1), api.Fault{Err: api.ErrBound})
}

// P9.1: an expression of the greatest depth has a clock, and gives one to each variable that it names.
func TestDeep(t *testing.T) {
	p := program(t, plain)
	e, path, want := api.Expr{Op: api.Var, Name: "x"}, "", ""
	for i := range api.MaxDepth - 1 {
		w := "_w" + strconv.Itoa(i)
		p.Nodes[0].Items = append(p.Nodes[0].Items, item(w, api.Expr{Op: api.Var, Name: w}))
		want += strings.TrimSuffix(" "+w+":"+path, ":")
		e = api.Expr{Op: api.When, Name: w, Cons: []string{"True"}, Kids: []api.Expr{e}}
		path = strings.TrimPrefix(path+","+w+"=True", ",")
	}
	p.Nodes[0].Items = append(p.Nodes[0].Items, item("z", e))
	if got := showVars(inferred(t, p)[0]); got != "x y"+want+" z:"+path {
		t.Errorf("%s, want %s", got, "x y"+want+" z:"+path)
	}
	e = api.Expr{Op: api.Pre, Kids: []api.Expr{e}}
	p.Nodes[0].Items[api.MaxDepth].E = e
	checkProgramFault(t, "too deep an expression", p, api.Fault{Err: api.ErrBound})
}

// R4: a program is not changed, and no two lists of an answer share memory.
func TestMemory(t *testing.T) {
	p := program(t, inNode("y = x; z = x when A(c); w = z; (v, u) = two(z, w); r = 1 when P(v); s = r;"))
	before := clone(p)
	first, again := inferred(t, p), inferred(t, p)
	want := showAll(again)
	if got := showAll(inferred(t, before)); got != want {
		t.Fatalf("%s, want %s", got, want)
	}
	for k := range first {
		for i := range first[k] {
			c := first[k][i].Clock
			for j := range c[:cap(c)] {
				c[:cap(c)][j] = api.Sample{Var: "changed"}
			}
			first[k][i].Clock = nil
			for j, v := range first[k][i+1:] {
				if got, want := showClock(v.Clock), showClock(again[k][i+1+j].Clock); got != want {
					t.Fatalf("the clock of %s is %s after a change of that of %s, want %s", v.Name, got, again[k][i].Name, want)
				}
			}
		}
		vars := first[k][:cap(first[k])]
		for i := range vars {
			vars[i] = api.Named{Name: "changed"}
		}
	}
	if got := showAll(again); got != want {
		t.Errorf("%s after a change of an earlier answer, want %s", got, want)
	}
	if showProgram(p) != showProgram(before) {
		t.Errorf("%s is changed to %s", showProgram(before), showProgram(p))
	}
	if l, f := clocks.Infer(p); f != (api.Fault{}) || showAll(l) != want {
		t.Errorf("%s by a later call, want %s", showAll(l), want)
	}
}

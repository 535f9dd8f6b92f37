package normal_test

import (
	"strconv"
	"testing"

	"pendule/api"
	"pendule/sugar"
)

// P14.1: the example of the chapter.
func TestExample(t *testing.T) {
	p := program(t, "node f (x) = (y) where y = 0 fby y + x; end")
	checkLast(t, p, "_v0 = ( y + x )\n_v1 flag\n_v2 memory _v0\ny = ( if _v1 then 0 else _v2 )")
	want := api.NNode{Name: "f", Ins: []string{"x"}, Outs: []string{"y"},
		Vars: []api.Named{{Name: "x"}, {Name: "y"}, {Name: "_v0"}, {Name: "_v1"}, {Name: "_v2"}},
		Eqs: []api.NEq{
			{Sort: api.NExp, Names: []string{"_v0"}, E: api.Expr{Op: api.Bin, Name: "+", Kids: []api.Expr{variable("y"), variable("x")}}},
			{Sort: api.NFlag, Names: []string{"_v1"}},
			{Sort: api.NMem, Names: []string{"_v2"}, E: variable("_v0")},
			{Sort: api.NExp, Names: []string{"y"}, E: api.Expr{Op: api.If, Kids: []api.Expr{variable("_v1"), {Op: api.Int}, variable("_v2")}}}}}
	if got := made(t, p); show(got) != show([]api.NNode{want}) {
		t.Errorf("%s, want %s", show(got), show(want))
	}
}

func variable(name string) api.Expr { return api.Expr{Op: api.Var, Name: name} }

// P14.1: an expression without delays, calls and merges stays as it is.
func TestPure(t *testing.T) {
	for items, want := range map[string]string{
		"y = 1;":                          "y = 1",
		"y = true; z = false;":            "y = true\nz = false",
		"y = Green; z = True; v = One;":   "y = Green\nz = True\nv = One",
		"y = x;":                          "y = x",
		"y = - x;":                        "y = ( - x )",
		"y = x + 2 * x; z = not c and c;": "y = ( x + ( 2 * x ) )\nz = ( ( not c ) and c )",
		"y = if c then x < 1 else x = 2;": "y = ( if c then ( x < 1 ) else ( x = 2 ) )",
		"z = x when True(c); y = 1;":      "z @c=True = ( x when True ( c ) )\ny = 1",
		"z = y when True(c) when Red(z2); z2 = d when True(c); y = 1 - x;": "z @c=True @z2=Red = ( ( y when True ( c ) ) when Red ( z2 ) )\nz2 @c=True = ( d when True ( c ) )\ny = ( 1 - x )",
		"y = merge c (False -> 1 | True -> x when True(c));":               "y = merge c ( False -> 1 | True -> ( x when True ( c ) ) )",
	} {
		checkItems(t, items, want)
	}
}

// P14.1: a Fby takes three new equations behind those of its kids, a Pre two and an Arrow one.
func TestDelays(t *testing.T) {
	checkItems(t, "y = x fby 1;", "_v0 = 1\n_v1 flag\n_v2 memory _v0\ny = ( if _v1 then x else _v2 )")
	checkItems(t, "y = pre x;", "_v0 = x\n_v1 memory _v0\ny = _v1")
	checkItems(t, "y = x -> 1;", "_v0 flag\ny = ( if _v0 then x else 1 )")
	checkItems(t, "y = x -> pre y;", "_v0 = y\n_v1 memory _v0\n_v2 flag\ny = ( if _v2 then x else _v1 )")
	checkItems(t, "y = pre pre x;", "_v0 = x\n_v1 memory _v0\n_v2 = _v1\n_v3 memory _v2\ny = _v3")
	checkItems(t, "y = pre pre (x + 1);", "_v0 = ( x + 1 )\n_v1 memory _v0\n_v2 = _v1\n_v3 memory _v2\ny = _v3")
	checkItems(t, "y = (1 fby x) fby (2 fby 3);", "_v0 = x\n_v1 flag\n_v2 memory _v0\n_v3 = 3\n_v4 flag\n_v5 memory _v3\n"+
		"_v6 = ( if _v4 then 2 else _v5 )\n_v7 flag\n_v8 memory _v6\ny = ( if _v7 then ( if _v1 then 1 else _v2 ) else _v8 )")
	checkItems(t, "y = (pre 1) -> (2 -> pre 3);", "_v0 = 1\n_v1 memory _v0\n_v2 = 3\n_v3 memory _v2\n_v4 flag\n_v5 flag\ny = ( if _v5 then _v1 else ( if _v4 then 2 else _v3 ) )")
}

// P14.1: what is in the kids of operators comes kid by kid, each with all that it takes.
func TestKids(t *testing.T) {
	checkItems(t, "y = pre 1 + pre 2;", "_v0 = 1\n_v1 memory _v0\n_v2 = 2\n_v3 memory _v2\ny = ( _v1 + _v3 )")
	checkItems(t, "y = - (pre x);", "_v0 = x\n_v1 memory _v0\ny = ( - _v1 )")
	checkItems(t, "y = if pre c then pre 1 + x else pre 2;", "_v0 = c\n_v1 memory _v0\n_v2 = 1\n_v3 memory _v2\n_v4 = 2\n_v5 memory _v4\ny = ( if _v1 then ( _v3 + x ) else _v5 )")
	checkItems(t, "y = (pre 1 + id(2)) * (3 -> 4);", "_v0 = 1\n_v1 memory _v0\n_v2 call id ( 2 )\n_v3 flag\ny = ( ( _v1 + _v2 ) * ( if _v3 then 3 else 4 ) )")
	checkItems(t, "z = pre x; y = pre z;", "_v0 = x\n_v1 memory _v0\nz = _v1\n_v2 = z\n_v3 memory _v2\ny = _v3")
}

// P14.1: the kid of a When is purified at the clock of its variable, whatever the clock of the When is.
func TestWhen(t *testing.T) {
	checkItems(t, "z = (pre x) when True(c); y = 1;", "_v0 = x\n_v1 memory _v0\nz @c=True = ( _v1 when True ( c ) )\ny = 1")
	checkItems(t, "z = pre (x when True(c)); y = 1;", "_v0 @c=True = ( x when True ( c ) )\n_v1 @c=True memory _v0\nz @c=True = _v1\ny = 1")
	checkItems(t, "z = (1 -> 2 when True(c)) when Red(w); w = d when True(c); y = 1;",
		"_v0 @c=True flag\nz @c=True @w=Red = ( ( if _v0 then 1 else ( 2 when True ( c ) ) ) when Red ( w ) )\nw @c=True = ( d when True ( c ) )\ny = 1")
	checkItems(t, "z = 1 fby ((2 fby (id(x) when True(c))) when Red(w)); w = d when True(c); y = 1;",
		"_v0 call id ( x )\n_v1 @c=True = ( _v0 when True ( c ) )\n_v2 @c=True flag\n_v3 @c=True memory _v1\n"+
			"_v4 @c=True @w=Red = ( ( if _v2 then 2 else _v3 ) when Red ( w ) )\n_v5 @c=True @w=Red flag\n_v6 @c=True @w=Red memory _v4\n"+
			"z @c=True @w=Red = ( if _v5 then 1 else _v6 )\nw @c=True = ( d when True ( c ) )\ny = 1")
}

// P14.1: a Merge that is a whole expression has the name of the item, every other one a new name. Its kids are purified at the clocks of its arms.
func TestMerge(t *testing.T) {
	checkItems(t, "y = merge c (False -> pre 1 | True -> 2 -> 3);", "_v0 @c=False = 1\n_v1 @c=False memory _v0\n_v2 @c=True flag\ny = merge c ( False -> _v1 | True -> ( if _v2 then 2 else 3 ) )")
	checkItems(t, "y = 1 + merge c (False -> 1 | True -> x when True(c));", "_v0 = merge c ( False -> 1 | True -> ( x when True ( c ) ) )\ny = ( 1 + _v0 )")
	checkItems(t, "y = merge c (False -> merge z (Red -> 1 | Green -> pre 2 | Blue -> 3) | True -> (merge c (False -> 4 | True -> 5)) when True(c)); z = d when False(c);",
		"_v0 @c=False @z=Green = 2\n_v1 @c=False @z=Green memory _v0\n_v2 @c=False = merge z ( Red -> 1 | Green -> _v1 | Blue -> 3 )\n"+
			"_v3 = merge c ( False -> 4 | True -> 5 )\ny = merge c ( False -> _v2 | True -> ( _v3 when True ( c ) ) )\nz @c=False = ( d when False ( c ) )")
	checkItems(t, "y = pre merge k (One -> 1); k = One;", "_v0 = merge k ( One -> 1 )\n_v1 = _v0\n_v2 memory _v1\ny = _v2\nk = One")
	checkItems(t, "z = merge w (Red -> x when True(c) when Red(w) | Green -> pre 1 | Blue -> id(1)); w = d when True(c); y = x;",
		"_v0 @c=True @w=Green = 1\n_v1 @c=True @w=Green memory _v0\n_v2 @c=True @w=Blue call id ( 1 )\n"+
			"z @c=True = merge w ( Red -> ( ( x when True ( c ) ) when Red ( w ) ) | Green -> _v1 | Blue -> _v2 )\nw @c=True = ( d when True ( c ) )\ny = x")
}

// P14.1: a Call that is a whole expression has the names of the item, every other one a new name. Its kids are pure and have no Merge.
func TestCalls(t *testing.T) {
	checkItems(t, "y = id(x);", "y call id ( x )")
	checkItems(t, "(y, z) = swap(x, 1);", "y, z call swap ( x , 1 )")
	checkItems(t, "(z, y) = swap(id(x), pre x);", "_v0 call id ( x )\n_v1 = x\n_v2 memory _v1\nz, y call swap ( _v0 , _v2 )")
	checkItems(t, "y = id(id(id(x + 1)));", "_v0 call id ( ( x + 1 ) )\n_v1 call id ( _v0 )\ny call id ( _v1 )")
	checkItems(t, "y = 2 + id(x);", "_v0 call id ( x )\ny = ( 2 + _v0 )")
	checkItems(t, "y = id(merge c (False -> 1 | True -> 2));", "_v0 = merge c ( False -> 1 | True -> 2 )\ny call id ( _v0 )")
	checkItems(t, "(v, w) = swap(x when True(c), 1); y = x;", "v, w @c=True call swap ( ( x when True ( c ) ) , 1 )\ny = x")
}

// P14.1: the reset of an Every is a variable of its own, behind what the kids of the call take.
func TestEvery(t *testing.T) {
	checkItems(t, "y = id(x) every c;", "_v0 = c\ny call id ( x ) reset _v0")
	checkItems(t, "(y, z) = swap(x, pre 1) every (x < 2);", "_v0 = 1\n_v1 memory _v0\n_v2 = ( x < 2 )\ny, z call swap ( x , _v1 ) reset _v2")
	checkItems(t, "y = 1 + (id(pre x) every (true fby c));", "_v0 = x\n_v1 memory _v0\n_v2 = c\n_v3 flag\n_v4 memory _v2\n_v5 = ( if _v3 then true else _v4 )\n_v6 call id ( _v1 ) reset _v5\ny = ( 1 + _v6 )")
	checkItems(t, "y = id(id(x) every c) every (id(c) every false);", "_v0 = c\n_v1 call id ( x ) reset _v0\n_v2 = false\n_v3 call id ( c ) reset _v2\n_v4 = _v3\ny call id ( _v1 ) reset _v4")
	checkItems(t, "z = id(x when True(c)) every merge k (False -> false | True -> pre true); k = true when True(c); y = x;",
		"_v0 @c=True @k=True = true\n_v1 @c=True @k=True memory _v0\n_v2 @c=True = merge k ( False -> false | True -> _v1 )\n_v3 @c=True = _v2\n"+
			"z @c=True call id ( ( x when True ( c ) ) ) reset _v3\nk @c=True = ( true when True ( c ) )\ny = x")
}

// named returns p with other names for the variables of its last node: each of from becomes what stands at its index in to.
func named(p api.Program, from, to []string) api.Program {
	p = clone(p)
	n := &p.Nodes[len(p.Nodes)-1]
	rename := func(name *string) {
		for i, v := range from {
			if *name == v {
				*name = to[i]
				return
			}
		}
	}
	lists := [][]string{n.Ins, n.Outs}
	for _, i := range n.Items {
		lists = append(lists, i.Names)
	}
	for _, l := range lists {
		for i := range l {
			rename(&l[i])
		}
	}
	for _, e := range exprsOf(n) {
		if e.Op == api.Var || e.Op == api.When || e.Op == api.Merge {
			rename(&e.Name)
		}
	}
	return p
}

// P14.1: a number is skipped if the node has a variable of that name, as an In or by an item.
func TestNumbers(t *testing.T) {
	p := program(t, inNode("y = x -> z; z = pre x; w = 1 -> 2;"))
	checkLast(t, named(p, []string{"x"}, []string{"_v0"}), "_v1 flag\ny = ( if _v1 then _v0 else z )\n_v2 = _v0\n_v3 memory _v2\nz = _v3\n_v4 flag\nw = ( if _v4 then 1 else 2 )")
	checkLast(t, named(p, []string{"w", "d"}, []string{"_v1", "_v2"}), "_v0 flag\ny = ( if _v0 then x else z )\n_v3 = x\n_v4 memory _v3\nz = _v4\n_v5 flag\n_v1 = ( if _v5 then 1 else 2 )")
	checkLast(t, named(p, []string{"x", "c", "d", "y", "z", "w"}, []string{"_v6", "_v5", "_v0", "_v2", "_v1", "_v4"}),
		"_v3 flag\n_v2 = ( if _v3 then _v6 else _v1 )\n_v7 = _v6\n_v8 memory _v7\n_v1 = _v8\n_v9 flag\n_v4 = ( if _v9 then 1 else 2 )")
	// Other names that begin alike are no hindrance, and the variables of other nodes are not.
	checkLast(t, named(p, []string{"x", "c", "d", "y", "z", "w"}, []string{"_v", "_v00", "_v01", "v0", "_v10", "_n0"}),
		"_v0 flag\nv0 = ( if _v0 then _v else _v10 )\n_v1 = _v\n_v2 memory _v1\n_v10 = _v2\n_v3 flag\n_n0 = ( if _v3 then 1 else 2 )")
	q := named(p, []string{"x"}, []string{"_v0"})
	second := clone(p.Nodes[len(p.Nodes)-1])
	second.Name = "_v0"
	q.Nodes = append(q.Nodes, second)
	checkLast(t, q, "_v0 flag\ny = ( if _v0 then x else z )\n_v1 = x\n_v2 memory _v1\nz = _v2\n_v3 flag\nw = ( if _v3 then 1 else 2 )")
}

// P14.1: the nodes are normalized one by one, in their order, with numbers from 0 in each.
func TestNodes(t *testing.T) {
	p := program(t, "node a (x) = (y) where y = pre x; end node b (x, z) = (y, w) where y = a(x); w = z; end node c (x) = (z) where (z, y) = b(x, pre x); end")
	want := "\nnode a (x) = (y) with x, y, _v0, _v1\n_v0 = x\n_v1 memory _v0\ny = _v1" +
		"\nnode b (x, z) = (y, w) with x, z, y, w\ny call a ( x )\nw = z" +
		"\nnode c (x) = (z) with x, z, y, _v0, _v1\n_v0 = x\n_v1 memory _v0\nz, y call b ( x , _v1 )"
	if got := showNodes(made(t, p)); got != want {
		t.Errorf("%s, want %s", got, want)
	}
}

// P14.1: the Types of variables are 0, their clocks those of layer 9, and new ones follow in the order in which they were made.
func TestVars(t *testing.T) {
	p := program(t, inNode("u = pre (1 when True(c)); y = merge c (False -> 0 -> 1 | True -> u); w = c -> c;"))
	l := made(t, p)
	n := l[len(l)-1]
	if got, want := showVars(n.Vars), "x, c, d, u @c=True, y, w, _v0 @c=True, _v1 @c=True, _v2 @c=False, _v3"; got != want {
		t.Errorf("%s, want %s", got, want)
	}
	for _, n := range l {
		for _, v := range n.Vars {
			if v.Type != 0 {
				t.Errorf("%s has the type %d", v.Name, v.Type)
			}
		}
	}
}

// P14.1: a program with generated names is normalized, as those that layer 6 makes.
func TestGenerated(t *testing.T) {
	p := program(t, "node main (x) = (y) where automaton state A: y = 0 fby y + x; until x < 3 then B; state B: y = 1; until y = x then A; end; end")
	plain, f := sugar.Plain(p)
	if f != (api.Fault{}) {
		t.Fatal(f)
	}
	l := made(t, plain)
	if len(l[0].Eqs) < 8 {
		t.Error(showNodes(l))
	}
}

// P14.1, W0: nodes of the greatest depth and about the greatest size.
func TestGreatest(t *testing.T) {
	deep := func(op int, kids ...api.Expr) api.Expr {
		e := variable("x")
		for range api.MaxDepth - 1 {
			e = api.Expr{Op: op, Kids: append(clone(kids), e)}
		}
		return e
	}
	put := func(e api.Expr, items int) api.Program {
		p := program(t, "node f (x) = (y) where y = x; end")
		p.Nodes[0].Items[0].E = e
		for i := range items {
			p.Nodes[0].Items = append(p.Nodes[0].Items, api.Item{Eq: api.Eq{Names: []string{"_v" + strconv.Itoa(2*i)}, E: api.Expr{Op: api.Int, N: int64(i)}}})
		}
		return p
	}
	one := api.Expr{Op: api.Int, N: 1}
	for _, x := range []struct {
		e                api.Expr
		items, equations int
	}{
		{deep(api.Pre), 0, 79}, {deep(api.Fby, one), 0, 118}, {deep(api.Arrow, one), 0, 40}, {deep(api.Pre), 260, 339},
	} {
		n := made(t, put(x.e, x.items))[0]
		if len(n.Eqs) != x.equations {
			t.Errorf("%d equations, want %d", len(n.Eqs), x.equations)
		}
	}
	n := made(t, put(deep(api.Pre), 260))[0]
	if got, want := n.Vars[len(n.Vars)-1].Name, "_v155"; got != want {
		t.Errorf("the last variable is %s, want %s", got, want)
	}
}

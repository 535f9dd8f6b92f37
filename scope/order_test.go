package scope_test

import (
	"strconv"
	"strings"
	"testing"

	"pendule/api"
	"pendule/scope"
)

// P5.1: of several faults the first one by the chapter is returned: enums, then node by node its head, what its items define, its Outs, what its items use.
func TestFirstFault(t *testing.T) {
	const enum = "type t = A; type u = A; "
	const head, define, outs, use = "node f (x, x) = (y) where ", "a = x; x = a; ", "b = a; ", "d = undefined; "
	checkWrong(t, -1, 1, enum+head+define+outs+use+"end")
	checkWrong(t, 0, -1, head+use+define+outs+"end")
	checkItems(t, 2, use+define+outs, use+define+"y = x;")
	checkItems(t, -1, use+"a = x; "+outs)
	checkItems(t, 0, use+"y = x;")
	checkItems(t, 1, "a = x; "+use+"y = undefined;")
	checkItems(t, 3, "e = undefined; "+"a = x; "+use+"a = x; y = x;")
	checkItems(t, 1, "y = undefined; automaton state A: z = undefined; until undefined then B; end;", "y = undefined; (a, b) = x; a = x;")
	bad := strings.Repeat("node f (x) = (y) where y = undefined; end ", 2)
	checkWrong(t, 0, 0, bad)
	checkWrong(t, 1, 1, plain+"node g (x) = (y) where y = x; z = undefined; end "+bad)
	checkWrong(t, 0, 0, "node g (x) = (y) where y = f(x); end node g (x) = (y) where y = x; end")
}

// P5.1: what is not well-formed, or too large, has the error of layer 2, whatever else is wrong.
func TestTreeFaults(t *testing.T) {
	good := program(t, plain)
	bad := program(t, "type t = True; node f (x, x) = (y) where end")
	for _, p := range []api.Program{good, bad} {
		for what, change := range map[string]func(p *api.Program){
			"no nodes":        func(p *api.Program) { p.Nodes = nil },
			"no Ins":          func(p *api.Program) { p.Nodes[0].Ins = nil },
			"no Outs":         func(p *api.Program) { p.Nodes[0].Outs = nil },
			"a bad name":      func(p *api.Program) { p.Nodes[0].Name = "F" },
			"an empty item":   func(p *api.Program) { p.Nodes[0].Items = append(p.Nodes[0].Items, api.Item{}) },
			"an empty enum":   func(p *api.Program) { p.Enums = append(p.Enums, api.Enum{Name: "u"}) },
			"a merge of none": func(p *api.Program) { p.Nodes[0].Items = item(api.Expr{Op: api.Merge, Name: "x"}) },
			"a when of none":  func(p *api.Program) { p.Nodes[0].Items = item(api.Expr{Op: api.When, Name: "x"}) },
			"a memory":        func(p *api.Program) { p.Nodes[0].Items = item(api.Expr{Op: api.Mem}) },
			"no expression":   func(p *api.Program) { p.Nodes[0].Items = item(api.Expr{}) },
			"no equation":     func(p *api.Program) { p.Nodes[0].Items = []api.Item{{States: []api.State{{}}}} },
		} {
			q := clone(p)
			change(&q)
			for _, made := range []bool{false, true} {
				if f := scope.Check(q, made); f != (api.Fault{Err: api.ErrField}) {
					t.Errorf("%s, %t: fault %v", what, made, f)
				}
			}
		}
		q := clone(p)
		q.Nodes[0].Items = item(negated(api.MaxDepth))
		if f := scope.Check(q, true); f != (api.Fault{Err: api.ErrBound}) {
			t.Errorf("too deep: fault %v", f)
		}
	}
	deepest := good
	deepest.Nodes = clone(good.Nodes)
	deepest.Nodes[0].Items = item(negated(api.MaxDepth - 1))
	if f := scope.Check(deepest, false); f != (api.Fault{}) {
		t.Errorf("the greatest depth: fault %v", f)
	}
	if f := scope.Check(api.Program{}, true); f != (api.Fault{Err: api.ErrField}) {
		t.Errorf("the zero program: fault %v", f)
	}
}

// item returns an equation of y.
func item(e api.Expr) []api.Item { return []api.Item{{Eq: api.Eq{Names: []string{"y"}, E: e}}} }

// negated returns x behind n times not.
func negated(n int) api.Expr {
	e := api.Expr{Op: api.Var, Name: "x"}
	for range n {
		e = api.Expr{Op: api.Un, Name: "not", Kids: []api.Expr{e}}
	}
	return e
}

// P5.1: generated names are right only if made, and resolved like all others.
func TestGeneratedNames(t *testing.T) {
	for _, text := range []string{inNode(everything), colours, "type t = A;" + plain} {
		p := generated(program(t, text))
		if f := scope.Check(p, true); f != (api.Fault{}) {
			t.Errorf("Check(%v, true) = %v", p, f)
		}
		if f := scope.Check(p, false); f != (api.Fault{Err: api.ErrField}) {
			t.Errorf("Check(%v, false) = %v", p, f)
		}
	}
	for _, s := range []string{"y = x", "y = z", "y = Red"} {
		p := program(t, "type t = Red; node f (x) = (y) where "+s+"; end")
		p.Nodes[0].Ins = []string{"_x"}
		p.Enums[0].Cons = []string{"_Red"}
		if f := scope.Check(p, true); f != scopeFault(0, 0) {
			t.Errorf("%s: fault %v", s, f)
		}
	}
	p := generated(program(t, "type t = Red; node f (x) = (y) where y = x; y = Red; end"))
	if f := scope.Check(p, true); f != scopeFault(0, 1) {
		t.Errorf("fault %v", f)
	}
	made := program(t, "type t = A; type u = B; node f (x) = (y) where y = x; end")
	made.Enums[1].Cons = []string{"B", "_True", "_False", "_A"}
	if f := scope.Check(made, true); f != (api.Fault{}) {
		t.Errorf("marked constructors: fault %v", f)
	}
}

// P5.1: a made program may have more enums than a source text, and each of them counts.
func TestMadeEnums(t *testing.T) {
	p := program(t, plain)
	for i := range 32 {
		p.Enums = append(p.Enums, api.Enum{Name: "_t" + strconv.Itoa(i), Cons: []string{"A" + strconv.Itoa(i), "_B" + strconv.Itoa(i)}})
	}
	check := func(want api.Fault) {
		t.Helper()
		if f := scope.Check(p, true); f != want {
			t.Errorf("fault %v, want %v", f, want)
		}
	}
	check(api.Fault{})
	p.Enums[31].Cons[1] = "_B8"
	check(scopeFault(-1, 31))
	p.Enums[20].Name = "_t19"
	check(scopeFault(-1, 20))
	p.Enums = append(p.Enums, api.Enum{Name: "t", Cons: []string{"C"}})
	check(api.Fault{Err: api.ErrField})
}

// everything are items with every use of names that there is.
const everything = "y = merge c (False -> x when False(c) | True -> inc(x when True(c)) every Green); (z, a) = two(g(x), - twice[g](1)) every h(x); b = twice[inc](x) -> pre y; " +
	"automaton state A: d = x fby y; e = if c then d else 2; until x then B; until c then A; state B: e = d < 1; d = One = One; end; i = match x (Red -> y | Green -> z | Blue -> a);"

// W0: many items take no longer than they must, and none of them is left out.
func TestManyItems(t *testing.T) {
	const n = 50000
	p := program(t, plain)
	for i := range n {
		p.Nodes[0].Items = append(p.Nodes[0].Items, api.Item{States: []api.State{{Name: "S" + strconv.Itoa(i)}}})
	}
	if f := scope.Check(p, false); f != (api.Fault{Err: api.ErrField}) {
		t.Errorf("given: fault %v", f)
	}
	if f := scope.Check(p, true); f != (api.Fault{}) {
		t.Errorf("made: fault %v", f)
	}
	p.Nodes[0].Items[n].States[0].Name = "S0"
	if f := scope.Check(p, true); f != scopeFault(0, n) {
		t.Errorf("the first name again: fault %v", f)
	}
	if l := scope.Vars(p.Nodes[0]); len(l) != 2 {
		t.Errorf("the variables %q", l)
	}
}

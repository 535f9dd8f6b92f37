package types_test

import (
	"slices"
	"strconv"
	"strings"
	"testing"

	"pendule/api"
	"pendule/scope"
	"pendule/sugar"
	"pendule/types"
)

// What has one fault each: node one has ErrArg, node none has ErrType at its item 0.
const (
	plain = "node plain (x) = (y) where y = x; end "
	match = "node one (x) = (y) where y = match x (False -> 1 | True -> 2); end "
	none  = "node none (x) = (y) where y = 1 + true; end "
)

// P8.1: the faults of the names of a program are returned as they are, ahead of all others.
func TestScopeFaults(t *testing.T) {
	scopeFault := func(a, b int) api.Fault { return api.Fault{Err: api.ErrScope, A: a, B: b} }
	checkFault(t, scopeFault(0, 0), "node f (x) = (y) where y = z; end", "node f (x) = (y) where y = 1 + z; end", "node f (x) = (y) where y = match z (False -> 1 | True -> 2); end")
	checkFault(t, scopeFault(0, -1), "node f (x) = (y) where end", "node f [f] (x) = (y) where y = 1 + true; end")
	checkFault(t, scopeFault(-1, 1), "type a = A; type b = A; "+none)
	checkFault(t, scopeFault(2, 1), plain+none+"node f (x) = (y) where y = x; z = w; end")
	checkFault(t, scopeFault(2, 0), plain+match+"node f (x) = (y) where y = plain(x, x); end")
	checkFault(t, scopeFault(1, 0), none+"node f (x) = (y) where automaton state A: y = 1; until x then B; end; end")
	checkFault(t, scopeFault(1, 0), "node f [g] (x) = (y) where y = x; end node h (x) = (y) where y = g(x); end")
}

// P8.1: the faults of the tree of a program are returned as they are, with A and B 0.
func TestTreeFaults(t *testing.T) {
	field, bound := api.Fault{Err: api.ErrField}, api.Fault{Err: api.ErrBound}
	checkProgramFault(t, "no program", api.Program{}, field)
	wrong := func(e api.Expr) api.Program {
		p := program(t, plain+none)
		p.Nodes[0].Items[0].E = e
		return p
	}
	x := api.Expr{Op: api.Var, Name: "x"}
	for _, e := range []api.Expr{{}, {Op: api.Mem}, {Op: 17}, {Op: -1}, {Op: api.Un, Name: "+", Kids: []api.Expr{x}}, {Op: api.Un, Name: "-"}, {Op: api.Bin, Name: "=", Kids: []api.Expr{x}},
		{Op: api.Bin, Name: "not", Kids: []api.Expr{x, x}}, {Op: api.If, Kids: []api.Expr{x}}, {Op: api.Fby}, {Op: api.Merge, Name: "x"}, {Op: api.When, Name: "x", Kids: []api.Expr{x}},
		{Op: api.Call, Name: "plain"}, {Op: api.Every, Kids: []api.Expr{x, x}}, {Op: api.Every}, {Op: api.Int, N: -1}, {Op: api.Bool, N: 2}} {
		checkProgramFault(t, "a tree", wrong(e), field)
	}
	deep := x
	for range api.MaxDepth - 1 {
		deep = api.Expr{Op: api.Un, Name: "-", Kids: []api.Expr{deep}}
	}
	p := program(t, plain)
	p.Nodes[0].Items[0].E = deep
	if got := showInfo(p, inferred(t, p)[0]); got != "int -> int | x:int y:int" {
		t.Errorf("the types of an expression of the greatest depth: %s", got)
	}
	checkProgramFault(t, "a deep tree", wrong(api.Expr{Op: api.Un, Name: "not", Kids: []api.Expr{deep}}), bound)
}

// P8.1: an automaton and a match, wherever they are, are ErrArg, with A and B 0, ahead of ErrType.
func TestSugar(t *testing.T) {
	arg := api.Fault{Err: api.ErrArg}
	checkFault(t, arg, match, plain+match, match+plain, none+match, plain+none+plain2+match,
		"node f [g] (x) = (y) where y = match x (False -> 1 | True -> 2); end",
		"node f (x) = (y) where z = 1 + true; automaton state A: y = 1; end; end",
		"node f (x) = (y) where automaton state A: y = 1 + true; end; end",
		"node f (x) = (y) where y = x; automaton state A: end; end",
		none+"node f (x) = (y) where automaton state A: y = 1; until x then B; state B: y = 2; until true then A; end; end")
	for _, around := range []string{"- @", "1 + @", "@ + 1", "if @ then 1 else 2", "if true then @ else 1", "if true then 1 else @", "1 fby @", "@ fby 1", "1 -> @", "pre @", "(@) when True(x)",
		"merge x (False -> 1 | True -> @)", "plain(@)", "plain(@) every x", "plain(1) every @", "plain(1 + pre plain(plain(1) every - @))"} {
		e := strings.Replace(around, "@", "(match x (False -> 1 | True -> 2))", 1)
		checkFault(t, arg, plain+"node f (x) = (y) where z = 1; y = "+e+"; end", plain+"node f (x) = (y) where y = "+e+"; z = 1 + true; end")
	}
}

const plain2 = "node other (x) = (y) where y = x; end "

// P8.1: of several nodes without types the first one is told.
func TestFirstNode(t *testing.T) {
	checkFault(t, typeFault(0, 0), none, none+plain, none+"node f [g] (x) = (y) where y = x; end")
	checkFault(t, typeFault(1, 0), plain+none, plain+none+"node f (x) = (y) where y = not 1; end")
	checkFault(t, typeFault(1, -1), plain+"node f [g] (x) = (y) where y = x; end "+none)
	checkFault(t, typeFault(2, 1), plain+plain2+"node f (x) = (y) where y = plain(x) + 1; z = not x; end "+none)
	checkFault(t, typeFault(15, 1), manyNodes(15)+"node f (x) = (y) where y = n14(x); z = x + not y; end")
	// The fault is that of the caller, as the callee by itself has types.
	checkFault(t, typeFault(1, 0), "node f (x) = (y) where y = x + 1; end node g (x) = (y) where y = f(true); end")
}

// manyNodes returns n nodes n0, n1 and so on, of which each but the first calls the one ahead of it.
func manyNodes(n int) string {
	text := "node n0 (x) = (y) where y = x; end "
	for i := 1; i < n; i++ {
		text += "node n" + strconv.Itoa(i) + " (x) = (y) where y = n" + strconv.Itoa(i-1) + "(x); end "
	}
	return text
}

// P8.1: a program with generated names has types, as those that layer 6 makes.
func TestGenerated(t *testing.T) {
	p := program(t, "type colour = Red | Green; node f (x, c) = (y) where z = match c (Red -> x | Green -> 1); "+
		"automaton state A: y = 0 fby y + z; until x < 3 then B; state B: y = 1; until y = x then A; end; end")
	plain, f := sugar.Plain(p)
	if f != (api.Fault{}) {
		t.Fatal(f)
	}
	want := "int colour -> int | x:int c:colour z:int _s0:_t0 y:int _n0:_t0"
	if got := showInfo(plain, inferred(t, plain)[0]); got != want {
		t.Errorf("%s, want %s", got, want)
	}
	plain.Nodes[0].Items[0].E = api.Expr{Op: api.Con, Name: "A"}
	checkProgramFault(t, "an automaton with a wrong item", plain, typeFault(0, 2))
}

func item(name string, e api.Expr) api.Item {
	return api.Item{Eq: api.Eq{Names: []string{name}, E: e}}
}

// P8.1: a program with generated names may have 32 enums, each with a type of its own.
func TestManyEnums(t *testing.T) {
	p := api.Program{Nodes: []api.Node{{Name: "f", Ins: []string{"x"}, Outs: []string{"_y0"}}}}
	want := "-1 -> _t0 | x:-1"
	for i := range 32 {
		s := strconv.Itoa(i)
		p.Enums = append(p.Enums, api.Enum{Name: "_t" + s, Cons: []string{"A" + s, "_B" + s}})
		p.Nodes[0].Items = append(p.Nodes[0].Items, item("_y"+s, api.Expr{Op: api.Con, Name: "_B" + s}))
		want += " _y" + s + ":_t" + s
	}
	l := inferred(t, p)
	if got := showInfo(p, l[0]); got != want {
		t.Errorf("%s, want %s", got, want)
	}
	if got := l[0].Vars[32].Type; got != api.TyEnum+31 {
		t.Errorf("the type of the last enum is %d", got)
	}
	p.Enums = append(p.Enums, api.Enum{Name: "more", Cons: []string{"More"}})
	checkProgramFault(t, "33 enums", p, api.Fault{Err: api.ErrField})
}

// chain returns a program with a node in which n variables have the type of x, the last one of them compared with the constructor of the enum.
func chain(n int, con string) api.Program {
	p := api.Program{Enums: []api.Enum{{Name: "t", Cons: []string{"A"}}, {Name: "u", Cons: []string{"B"}}}, Nodes: []api.Node{{Name: "f", Ins: []string{"x"}, Outs: []string{"y"}}}}
	at := api.Expr{Op: api.Var, Name: "x"}
	l := &p.Nodes[0].Items
	for i := range n {
		name := "_z" + strconv.Itoa(i)
		*l = append(*l, item(name, at))
		at.Name = name
	}
	*l = append(*l, item("y", api.Expr{Op: api.Bin, Name: "=", Kids: []api.Expr{at, {Op: api.Con, Name: con}}}))
	return p
}

// P8.1: a program with generated names may have any number of items, up to the greatest size, and a type reaches through all of them.
func TestManyItems(t *testing.T) {
	const n = api.MaxSize - 3
	p := chain(n, "B")
	want := "u -> bool | x:u"
	for i := range n {
		want += " _z" + strconv.Itoa(i) + ":u"
	}
	if got := showInfo(p, inferred(t, p)[0]); got != want+" y:bool" {
		t.Errorf("%s, want %s", got, want)
	}
	p = chain(n-3, "B")
	p.Nodes[0].Items[0].E = api.Expr{Op: api.If, Kids: []api.Expr{{Op: api.Bool}, {Op: api.Var, Name: "x"}, {Op: api.Con, Name: "A"}}}
	checkProgramFault(t, "a chain with two ends", p, typeFault(0, n-3))
	checkProgramFault(t, "too long a chain", chain(n+1, "A"), api.Fault{Err: api.ErrBound})
}

// R4: a program is not changed, and no two lists of an answer share memory.
func TestMemory(t *testing.T) {
	p := program(t, prelude+"node f [g, h] (a, b) = (y, z) where y = g(a, b); (z, w) = h(b) every true; end")
	before := clone(p)
	first, again := inferred(t, p), inferred(t, p)
	want := showInfos(p, again)
	if got := showInfos(before, first); got != want {
		t.Fatalf("%s, want %s", got, want)
	}
	lists := listsOf(first)
	for i, l := range lists {
		var others []string
		for j, m := range lists {
			if i != j {
				others = append(others, showList(*m))
			}
		}
		whole := (*l)[:cap(*l)]
		for k := range whole {
			whole[k] = 99
		}
		for j, m := range slices.Delete(slices.Clone(lists), i, i+1) {
			if showList(*m) != others[j] {
				t.Fatalf("the list %d is changed with the list %d", j, i)
			}
		}
	}
	for i := range first {
		first[i].Vars[0] = api.Named{Name: "changed"}
	}
	if got := showInfos(p, again); got != want {
		t.Errorf("%s after a change of an earlier answer, want %s", got, want)
	}
	if f := scope.Check(p, false); f != (api.Fault{}) || showProgram(p) != showProgram(before) {
		t.Errorf("%v is changed", before)
	}
}

// listsOf returns all lists of types in the signatures.
func listsOf(l []types.Info) []*[]api.Type {
	var lists []*[]api.Type
	for i := range l {
		s := &l[i].Sig
		lists = append(lists, &s.Ins, &s.Outs)
		for k := range s.Funs {
			lists = append(lists, &s.Funs[k].Ins, &s.Funs[k].Outs)
		}
	}
	return lists
}

func showList(l []api.Type) string {
	s := ""
	for _, m := range l {
		s += " " + strconv.Itoa(int(m))
	}
	return s
}

package special_test

import (
	"slices"
	"strconv"
	"strings"
	"testing"

	"pendule/api"
	"pendule/cause"
	"pendule/clocks"
	"pendule/first"
	"pendule/special"
	"pendule/types"
)

// Nodes that have one fault each: matched has ErrArg, and untyped has ErrType at its item 1; sound has none, and use is sound but has Funs.
const (
	sound   = "node sound (x) = (y) where y = x; end "
	use     = "node use [g] (x) = (y) where y = g(x); end "
	matched = "node matched (x) = (y) where y = match x (False -> 1 | True -> 2); end "
	untyped = "node untyped (x) = (y) where y = x; z = 1 + true; end "
)

// P12.1: a fault in the tree or in the names comes ahead of all others, as layer 8 tells it, whatever the node is that is asked for.
func TestNameFaults(t *testing.T) {
	for _, l := range []struct {
		a, b  int
		texts []string
	}{
		{0, 0, []string{"node main (x) = (y) where y = z; end", "node main (x) = (y) where y = main(x); end"}},
		{2, 0, []string{sound + use + "node main (x) = (y) where y = use[nowhere](x); end", sound + use + "node main (x) = (y) where y = use[use](x); end",
			sound + use + "node main (x) = (y) where y = use(x); end", sound + use + "node main (x) = (y) where y = sound[sound](x); end", sound + use + "node main (x) = (y) where y = use[sound, sound](x); end",
			sound + use + "node f [g] (x) = (y) where y = g[sound](x); end", untyped + matched + "node main (x) = (y) where y = match x (False -> z); end"}},
		{0, -1, []string{"node main (x) = (y) where z = x; end", "node main [main] (x) = (y) where y = x; end"}},
		{1, -1, []string{sound + sound, sound + "node use [sound] (x) = (y) where y = sound(x); end", untyped + untyped}},
		{-1, 1, []string{"type a = A; type b = A; " + sound}},
		{1, 0, []string{sound + "node main (x) = (y) where automaton state S: y = x; until x then T; end; end"}},
	} {
		checkFault(t, api.Fault{Err: api.ErrScope, A: l.a, B: l.b}, l.texts...)
	}
}

// P12.1: a tree that is not well-formed comes with A and B 0.
func TestTreeFaults(t *testing.T) {
	x := api.Expr{Op: api.Var, Name: "x"}
	p := program(t, sound+use+"node main (x) = (y) where y = use[sound](x); end")
	put := func(e api.Expr) api.Program {
		q := clone(p)
		q.Nodes[2].Items[0].E = e
		return q
	}
	funs := func(n int) []string { return strings.Split("sound"+strings.Repeat(" sound", n-1), " ") }
	for _, e := range []api.Expr{{}, {Op: 17}, {Op: api.Mem}, {Op: api.Call, Name: "sound"}, {Op: api.Call, Name: "Sound", Kids: []api.Expr{x}}, {Op: api.Call, Name: "use", Cons: []string{"A"}, Kids: []api.Expr{x}},
		{Op: api.Call, Name: "use", Cons: funs(api.MaxArgs + 1), Kids: []api.Expr{x}}, {Op: api.Every, Kids: []api.Expr{x, x}}, {Op: api.Every}} {
		checkProgramFault(t, show(e), put(e), "main", api.Fault{Err: api.ErrField})
		checkProgramFault(t, show(e), put(e), "nowhere", api.Fault{Err: api.ErrField})
	}
	checkProgramFault(t, "as many Cons as there may be, and too many for the node", put(api.Expr{Op: api.Call, Name: "use", Cons: funs(api.MaxArgs), Kids: []api.Expr{x}}), "main", api.Fault{Err: api.ErrScope, A: 2})
	checkProgramFault(t, "no program", api.Program{}, "main", api.Fault{Err: api.ErrField})
	checkProgramFault(t, "no program", api.Program{}, "", api.Fault{Err: api.ErrField})
	seven := clone(p)
	seven.Nodes[1].Funs = []string{"a", "b", "c", "d", "e", "f", "g"}
	checkProgramFault(t, "seven Funs", seven, "main", api.Fault{Err: api.ErrField})
	deep := x
	for range api.MaxDepth {
		deep = api.Expr{Op: api.Call, Name: "sound", Kids: []api.Expr{deep}}
	}
	checkProgramFault(t, "too great a depth", put(deep), "sound", api.Fault{Err: api.ErrBound})
	checkProgram(t, put(deep.Kids[0]), "main", specialized(t, "node i0 (x) = (y) where y = x; end node i1 (x) = (y) where y = "+strings.Repeat("i0(", api.MaxDepth-1)+"x"+strings.Repeat(")", api.MaxDepth-1)+"; end"))
}

// P12.1: an automaton or a match, wherever it is, is ErrArg, with A and B 0, ahead of ErrType and ErrIndex.
func TestSugarFaults(t *testing.T) {
	checkFault(t, api.Fault{Err: api.ErrArg}, matched, sound+matched, matched+sound, untyped+matched, sound+use+"node main (x) = (y) where y = use[sound](x); end "+matched,
		sound+"node main (x) = (y) where automaton state S: y = sound(x); end; end", sound+use+"node main (x) = (y) where y = use[sound](match x (False -> 1 | True -> 2)); end")
}

// P12.1: a node without types, whether it is needed or not, is ErrType where it is, ahead of ErrIndex and ErrBound.
func TestTypeFaults(t *testing.T) {
	typeFault := func(a, b int) api.Fault { return api.Fault{Err: api.ErrType, A: a, B: b} }
	checkFault(t, typeFault(0, 1), untyped, untyped+"node main (x) = (y) where y = x; end")
	checkFault(t, typeFault(1, 1), sound+untyped, sound+untyped+use)
	checkFault(t, typeFault(2, -1), sound+use+"node unused [g] (x) = (y) where y = x; end node main (x) = (y) where y = use[sound](x); end", sound+use+"node main [g] (x) = (y) where y = use[g](x); end")
	const two = "node two (x, y) = (v, w) where v = y; w = x; end "
	checkFault(t, typeFault(3, 0), sound+use+two+"node main (x) = (y) where y = use[two](x); end", sound+use+two+"node main [g] (x) = (y) where y = use[g](g(x, x)); z = g(x, y); end")
	const inc = "node inc (x) = (y) where y = x + 1; end "
	checkFault(t, typeFault(2, 1), inc+use+"node main (x) = (y) where y = use[inc](x); z = use[inc](true); end")
	checkFault(t, typeFault(0, 1), untyped+pairs(12))
}

// P12.1: a node that is not there, or that has Funs, is ErrIndex, with A and B 0.
func TestIndexFaults(t *testing.T) {
	index := api.Fault{Err: api.ErrIndex}
	p := program(t, "type t = Main; "+sound+use+"node main (x) = (y) where z = use[sound](x); y = z; end")
	for _, s := range []string{"use", "nowhere", "", "Main", "mai", "main ", "Main\x00", "x", "y", "z", "g", "t", "_i0", "_i2", "node", "0"} {
		checkProgramFault(t, "a program", p, s, index)
	}
	checkProgramFault(t, "another one", program(t, sound), "main", index)
	q := program(t, pairs(12))
	checkProgramFault(t, "a program with too many instances", q, "nowhere", index)
	checkProgramFault(t, "a program with too many instances", q, "both", index)
	// What is made has no nodes by their former names.
	checkProgramFault(t, "what is made", made(t, p, "main"), "main", index)
	checkProgramFault(t, "what is made", made(t, p, "main"), "_i3", index)
}

// pairs returns the text of a program in which main passes so many pairs of the nodes n0 to n3 to a node both.
func pairs(n int) string {
	s, main := leaves(4), "n3(n2(n1(n0(x))))"
	for c := range n {
		main += " + both[n" + strconv.Itoa(c/4) + ", n" + strconv.Itoa(c%4) + "](x)"
	}
	return s + "node both [g, h] (x) = (y) where y = g(h(x)); end node main (x) = (y) where y = " + main + "; end"
}

// pairsMade returns the text of what is made of that.
func pairsMade(n int) string {
	s, main := leaves(4), "n3(n2(n1(n0(x))))"
	for c := range n {
		name := "n" + strconv.Itoa(4+c)
		s += "node " + name + " (x) = (y) where y = n" + strconv.Itoa(c/4) + "(n" + strconv.Itoa(c%4) + "(x)); end "
		main += " + " + name + "(x)"
	}
	return numbered(s + "node n" + strconv.Itoa(4+n) + " (x) = (y) where y = " + main + "; end")
}

// leaves returns the text of nodes n0, n1 and so on that call none.
func leaves(n int) string {
	s := ""
	for k := range n {
		s += "node n" + strconv.Itoa(k) + " (x) = (y) where y = x + " + strconv.Itoa(k) + "; end "
	}
	return s
}

// numbered returns a text with the names i0, i1 and so on in the place of n0, n1 and so on.
func numbered(text string) string {
	for d := range 10 {
		text = strings.ReplaceAll(text, "n"+strconv.Itoa(d), "i"+strconv.Itoa(d))
	}
	return text
}

// P12.1: there may be as many instances as nodes of a program, and one more is ErrBound, with A and B 0.
func TestBound(t *testing.T) {
	for _, n := range []int{0, 1, 10, 11} {
		checkMade(t, pairs(n), pairsMade(n))
	}
	if n := len(made(t, program(t, pairs(11)), "main").Nodes); n != api.MaxNodes {
		t.Fatalf("%d nodes are made, want %d", n, api.MaxNodes)
	}
	for _, n := range []int{12, 13, 16} {
		p := program(t, pairs(n))
		checkProgramFault(t, "too many instances", p, "main", api.Fault{Err: api.ErrBound})
		checkProgram(t, p, "n0", specialized(t, numbered(leaves(1))))
	}
}

// P12.1: it is the instances that main needs that are counted, not the nodes of the program, nor the calls.
func TestCounted(t *testing.T) {
	const most = api.MaxNodes - 1
	sum := "x"
	for k := range most {
		sum += " + n" + strconv.Itoa(k) + "(x)"
	}
	text := leaves(most) + "node NAME (x) = (y) where y = " + sum + "; z = " + sum + "; w = " + sum + "; end"
	checkMade(t, strings.Replace(text, "NAME", "main", 1), numbered(strings.Replace(text, "NAME", "n"+strconv.Itoa(most), 1)))
	p := program(t, pairs(16))
	p.Nodes = append(p.Nodes, program(t, sound).Nodes...)
	checkProgram(t, p, "sound", specialized(t, "node i0 (x) = (y) where y = x; end"))
}

// P12.1, W0: where there would be very many instances, no more of them are visited than it takes to see that.
func TestVeryMany(t *testing.T) {
	const some = 8
	names := strings.Split("f g h i j k", " ")
	head := " [" + strings.Join(names, ", ") + "] (x) = (y) where y = f(x) + g(x) + h(x) + i(x) + j(x) + k(x)"
	s := leaves(some) + "node set0" + head + "; end "
	// Each of these passes each of the leaves in one place and all else on, so that set0 has as many instances as there are choices of five leaves.
	for k := range len(names) - 1 {
		s += "node set" + strconv.Itoa(k+1) + head
		for leaf := range some {
			passed := slices.Clone(names)
			passed[k] = "n" + strconv.Itoa(leaf)
			s += " + set" + strconv.Itoa(k) + "[" + strings.Join(passed, ", ") + "](x)"
		}
		s += "; end "
	}
	p := program(t, s+"node main (x) = (y) where y = set5[n0, n0, n0, n0, n0, n0](x); end")
	checkProgramFault(t, "very many instances", p, "main", api.Fault{Err: api.ErrBound})
	checked := testing.AllocsPerRun(1, func() { types.Infer(p) })
	if whole := testing.AllocsPerRun(1, func() { special.Make(p, "main") }); whole > checked+20000 {
		t.Errorf("%v allocations, of which the types take %v", whole, checked)
	} else {
		t.Logf("%v allocations, of which the types take %v", whole, checked)
	}
}

// P12.1: what is wrong with clocks, first values or causes is not told, and what is made of it is wrong in the same way.
func TestOtherFaults(t *testing.T) {
	const clockless, open, circular = "z = x when True(c); y = z + x;", "y = pre pre x;", "y = z; z = y;"
	for _, x := range []struct {
		items string
		err   api.Errno
		fault func(api.Program) api.Fault
	}{
		{clockless, api.ErrClock, func(p api.Program) api.Fault { _, f := clocks.Infer(p); return f }},
		{open, api.ErrInit, func(p api.Program) api.Fault { _, f := first.Infer(p); return f }},
		{circular, api.ErrCause, cause.Check},
	} {
		p := program(t, sound+use+"node wrong (x, c) = (y) where "+x.items+" end node main (x, c) = (y) where y = use[sound](wrong(x, c)); end")
		if _, f := types.Infer(p); f != (api.Fault{}) {
			t.Fatalf("Infer of %q: fault %v", x.items, f)
		}
		q := made(t, p, "main")
		if got := outs(q); got != "y y y y" {
			t.Errorf("main needs %q", got)
		}
		// The node wrong is visited first.
		if f := x.fault(p); f.Err != x.err || f.A != 2 {
			t.Errorf("%q: fault %v", x.items, f)
		}
		if f := x.fault(q); f.Err != x.err || f.A != 0 {
			t.Errorf("what is made of %q: fault %v", x.items, f)
		}
	}
}

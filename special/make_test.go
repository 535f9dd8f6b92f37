package special_test

import (
	"strconv"
	"strings"
	"testing"

	"pendule/api"
	"pendule/sugar"
	"pendule/types"
)

const inc = "node inc (a) = (b) where b = a + 1; end "

// P12.1: the example of the chapter.
func TestExample(t *testing.T) {
	checkMade(t, inc+"node twice [g] (a) = (b) where b = g(g(a)); end node main (x) = (y) where y = twice[inc](x); end",
		"node i0 (a) = (b) where b = a + 1; end node i1 (a) = (b) where b = i0(i0(a)); end node i2 (x) = (y) where y = i1(x); end")
}

// P12.1: of what main does not need, nothing is made, wherever it stands.
func TestAlone(t *testing.T) {
	checkMade(t, "node main (x) = (y) where y = 0 fby y + x; end", "node i0 (x) = (y) where y = 0 fby y + x; end")
	checkMade(t, inc+"node main (x, z) = (y, w) where y = x; w = z; end node other (x) = (y) where y = inc(x); end",
		"node i0 (x, z) = (y, w) where y = x; w = z; end")
	checkMade(t, inc+"node use [g] (x) = (y) where y = g(inc(x)); end node main (x) = (y) where y = x; end node other (x) = (y) where y = use[main](x); end",
		"node i0 (x) = (y) where y = x; end")
}

// P12.1: all enums are kept, whether there is anything of them in what is made or not.
func TestEnums(t *testing.T) {
	const enums = "type t = A | B; type one = One; type long = C | D | E | F | G | H | I | J; "
	checkMade(t, enums+"node other (x) = (y) where y = A; end node main (x) = (y) where y = One; end", enums+"node i0 (x) = (y) where y = One; end")
	checkMade(t, "type i0 = I; node main (x) = (y) where y = I; end", "type i0 = I; node i0 (x) = (y) where y = I; end")
}

// P12.1: all items are kept, in their order, and of their expressions all but what a call calls.
func TestExpressions(t *testing.T) {
	const text = "type t = A | B; type one = One; " +
		"node INC (a) = (b) where b = a + 1; end " +
		"node TWO (a, b) = (c, d) where c = b; d = a; end " +
		"node MAIN (x, s, c) = (y, v) where d = - x - 3 * (x / 2) % 5; e = not (x < 1 or x <= 2 and x = 3) <> true; " +
		"f = if e then A else c; y = 0 fby y + 1; g = 1 -> pre y; z = x when A(c); (v, w) = TWO(INC(x), g); " +
		"h = merge c (A -> z | B -> INC(x when B(c))); i = INC(x) every e; (j, k) = TWO(x, 12345678901) every (INC(x) < 2); " +
		"l = merge s (One -> false); m = One; n = True; end"
	named := func(names ...string) string { return strings.NewReplacer(names...).Replace(text) }
	checkMade(t, named("INC", "inc", "TWO", "two", "MAIN", "main"), named("INC", "i0", "TWO", "i1", "MAIN", "i2"))
}

// P12.1: a static parameter is called as what was passed for it, in each instance another one, whatever stands around the call.
func TestStaticParameters(t *testing.T) {
	const nodes = inc + "node dec (a) = (b) where b = a - 1; end node both [g, h] (a) = (b, c) where b = g(h(a)) + h(1) -> pre g(b); c = h(a) every (g(b) < 1); end "
	checkMade(t, nodes+"node main (x) = (u, v) where (u, v) = both[inc, dec](x); (w, z) = both[dec, dec](v) every true; end",
		"node i0 (a) = (b) where b = a + 1; end node i1 (a) = (b) where b = a - 1; end "+
			"node i2 (a) = (b, c) where b = i0(i1(a)) + i1(1) -> pre i0(b); c = i1(a) every (i0(b) < 1); end "+
			"node i3 (a) = (b, c) where b = i1(i1(a)) + i1(1) -> pre i1(b); c = i1(a) every (i1(b) < 1); end "+
			"node i4 (x) = (u, v) where (u, v) = i2(x); (w, z) = i3(v) every true; end")
}

// P12.1: what is passed on is passed in the order of the Cons, not of the Funs of the node that does it.
func TestPassedOn(t *testing.T) {
	checkMade(t, "node a (x) = (y) where y = 1; end node b (x) = (y) where y = 2; end "+
		"node three [f, g, h] (x) = (y) where y = f(g(h(x))); end "+
		"node turn [f, g] (x) = (y) where y = three[g, b, f](x) + f(g(x)); end "+
		"node main (x) = (y) where y = turn[a, b](x) + turn[b, a](x); end",
		"node i0 (x) = (y) where y = 1; end node i1 (x) = (y) where y = 2; end "+
			"node i2 (x) = (y) where y = i1(i1(i0(x))); end node i3 (x) = (y) where y = i2(x) + i0(i1(x)); end "+
			"node i4 (x) = (y) where y = i0(i1(i1(x))); end node i5 (x) = (y) where y = i4(x) + i1(i0(x)); end "+
			"node i6 (x) = (y) where y = i3(x) + i5(x); end")
}

// P12.1: a static parameter that has the name of a later node is the parameter.
func TestNameOfLaterNode(t *testing.T) {
	checkMade(t, "node a (x) = (y) where y = 1; end "+
		"node use [later] (x) = (y) where y = later(x); end node pass [later] (x) = (y) where y = use[later](later(x)); end "+
		"node later (x) = (y) where y = 2; end node main (x) = (y) where y = pass[a](x) + later(x) + use[later](x); end",
		"node i0 (x) = (y) where y = 1; end node i1 (x) = (y) where y = i0(x); end node i2 (x) = (y) where y = i1(i0(x)); end "+
			"node i3 (x) = (y) where y = 2; end node i4 (x) = (y) where y = i3(x); end "+
			"node i5 (x) = (y) where y = i2(x) + i3(x) + i4(x); end")
	checkMade(t, "node a (x) = (y) where y = 1; end node use [main] (x) = (y) where y = main(x); end node main (x) = (y) where y = use[a](x); end",
		"node i0 (x) = (y) where y = 1; end node i1 (x) = (y) where y = i0(x); end node i2 (x) = (y) where y = i1(x); end")
}

// P12.1: a variable or a parameter that has the name of a node, or of a static parameter, is another thing, and keeps it.
func TestNamesOfVariables(t *testing.T) {
	checkMade(t, "node a (a) = (b) where b = a; end node use [g] (a) = (use) where g = g(a); use = g + a; end node main (main) = (use) where use = use[a](main); a = a(use); end",
		"node i0 (a) = (b) where b = a; end node i1 (a) = (use) where g = i0(a); use = g + a; end node i2 (main) = (use) where use = i1(main); a = i0(use); end")
}

// P12.1: a node may have as many Funs as there are, and each of them counts.
func TestManyFuns(t *testing.T) {
	const nodes = "node a (x) = (y) where y = 1; end node b (x) = (y) where y = 2; end node six [f, g, h, i, j, k] (x) = (y) where y = f(g(h(i(j(k(x)))))); end "
	const first = "node i0 (x) = (y) where y = 1; end node i1 (x) = (y) where y = 2; end node i2 (x) = (y) where y = i0(i0(i0(i0(i0(i1(x)))))); end "
	checkMade(t, nodes+"node main (x) = (y) where y = six[a, a, a, a, a, b](x); end", first+"node i3 (x) = (y) where y = i2(x); end")
	checkMade(t, nodes+"node main (x) = (y) where y = six[a, a, a, a, a, b](x); z = six[b, a, a, a, a, a](x); w = six[a, a, a, a, a, b](z); end",
		first+"node i3 (x) = (y) where y = i1(i0(i0(i0(i0(i0(x)))))); end node i4 (x) = (y) where y = i2(x); z = i3(x); w = i2(z); end")
}

// P12.1: each node can be the one that all is made for, if it has no Funs.
func TestMains(t *testing.T) {
	p := program(t, inc+"node twice [g] (a) = (b) where b = g(g(a)); end node four (a) = (b) where b = twice[inc](twice[inc](a)); end node last (a) = (b) where b = twice[four](a); end")
	const first = "node i0 (a) = (b) where b = a + 1; end "
	const second = first + "node i1 (a) = (b) where b = i0(i0(a)); end node i2 (a) = (b) where b = i1(i1(a)); end "
	checkProgram(t, p, "inc", specialized(t, first))
	checkProgram(t, p, "four", specialized(t, second))
	checkProgram(t, p, "last", specialized(t, second+"node i3 (a) = (b) where b = i2(i2(a)); end node i4 (a) = (b) where b = i3(a); end"))
	checkProgramFault(t, "a node with Funs", p, "twice", api.Fault{Err: api.ErrIndex})
}

// P12.1: the names of nodes may be generated ones already, and there may be more items than in a source text.
func TestGenerated(t *testing.T) {
	p := program(t, inc+"node twice [g] (a) = (b) where b = g(g(a)); end node main (x) = (y) where y = twice[inc](x); end")
	want := made(t, p, "main")
	for from, to := range map[string]string{"inc": "_i1", "twice": "_i0", "main": "_i9", "g": "_i2"} {
		rename(&p, from, to)
	}
	checkProgram(t, p, "_i9", want)
	checkProgramFault(t, "a name that is not there any more", p, "main", api.Fault{Err: api.ErrIndex})
	for _, q := range []*api.Program{&p, &want} {
		n := &q.Nodes[2]
		for i := range 100 {
			e := clone(n.Items[0].E)
			n.Items = append(n.Items, api.Item{Eq: api.Eq{Names: []string{"_z" + strconv.Itoa(i)}, E: e}})
		}
	}
	checkProgram(t, p, "_i9", want)
	checkMade(t, "node i1 (x) = (y) where y = x; end node i0 (x) = (y) where y = i1(x); end node main (x) = (y) where y = i0(x); end",
		"node i0 (x) = (y) where y = x; end node i1 (x) = (y) where y = i0(x); end node i2 (x) = (y) where y = i1(x); end")
}

// rename changes a name of nodes and of static parameters, wherever it stands.
func rename(p *api.Program, from, to string) {
	change := func(s *string) {
		if *s == from {
			*s = to
		}
	}
	for k := range p.Nodes {
		n := &p.Nodes[k]
		change(&n.Name)
		for i := range n.Funs {
			change(&n.Funs[i])
		}
		for _, e := range exprsOf(n) {
			if e.Op != api.Call {
				continue
			}
			change(&e.Name)
			for i := range e.Cons {
				change(&e.Cons[i])
			}
		}
	}
}

// P12.1, P12.2: of a program that layer 6 has translated, what is made has types.
func TestTranslated(t *testing.T) {
	p, f := sugar.Plain(program(t, "type t = A | B; "+inc+"node use [g] (x, c) = (y) where y = match c (A -> g(x) | B -> x); end "+
		"node main (x, c) = (y) where automaton state S: y = use[inc](x, c); until y < 3 then T; state T: y = 0 fby inc(y); until y = x then S; end; end"))
	if f != (api.Fault{}) {
		t.Fatal(f)
	}
	q := made(t, p, "main")
	if _, f := types.Infer(q); f != (api.Fault{}) || len(q.Nodes) != 3 || len(q.Enums) != 2 || len(q.Nodes[2].Items) != 3 {
		t.Errorf("Make(%s, main) = %s: fault %v of its types", text(p), text(q), f)
	}
}

// P12.2: what is made may be of more types than where one static parameter had to stand for all.
func TestMoreTypes(t *testing.T) {
	p := program(t, "node same (x) = (y) where y = x; end node both [g] (x, y) = (v, w) where v = g(x); w = g(y); end node main (x, y) = (v, w) where (v, w) = both[same](x, y); end")
	sig := func(p api.Program) string {
		l, f := types.Infer(p)
		if f != (api.Fault{}) {
			t.Fatalf("Infer(%s): fault %v", text(p), f)
		}
		return show(l[len(l)-1].Sig)
	}
	if got, want := sig(p), show(api.Sig{Ins: []api.Type{-1, -1}, Outs: []api.Type{-1, -1}}); got != want {
		t.Errorf("main has %s, want %s", got, want)
	}
	if got, want := sig(made(t, p, "main")), show(api.Sig{Ins: []api.Type{-1, -2}, Outs: []api.Type{-1, -2}}); got != want {
		t.Errorf("what is made of main has %s, want %s", got, want)
	}
}

// P12.2: one node may be passed where it has several types, and is made once.
func TestSeveralTypes(t *testing.T) {
	checkMade(t, "node same (x) = (y) where y = x; end node use [g] (x) = (y) where y = g(x); end node main (x) = (y) where y = use[same](x + 1); z = use[same](y < 2); end",
		"node i0 (x) = (y) where y = x; end node i1 (x) = (y) where y = i0(x); end node i2 (x) = (y) where y = i1(x + 1); z = i1(y < 2); end")
}

// P12.3: without Funs, the nodes that are needed are unchanged but for their names.
func TestWithoutFuns(t *testing.T) {
	checkMade(t, "node z (x) = (y) where y = x; end "+inc+"node two (a, b) = (c, d) where c = inc(b); d = z(a) every true; end node none (x) = (y) where y = z(x); end "+
		"node main (x) = (y) where (y, w) = two(x, 1) every false; end",
		"node i0 (a) = (b) where b = a + 1; end node i1 (x) = (y) where y = x; end node i2 (a, b) = (c, d) where c = i0(b); d = i1(a) every true; end "+
			"node i3 (x) = (y) where (y, w) = i2(x, 1) every false; end")
}

// P12.3: of what is made, as many nodes are made again: maybe in another order, as nothing is passed any more ahead of what its callee calls; and then the same ones.
func TestAgain(t *testing.T) {
	p := program(t, prelude+"node main (x) = (main) where (main, z) = pair[deep](after[b](x), on[deep](x)); end")
	q := made(t, p, "main")
	if got, want := outs(q), "b c after deep use on u v main"; got != want {
		t.Errorf("main needs %q, want %q", got, want)
	}
	r := made(t, q, "_i7")
	if got, want := outs(r), "c b after deep use on u v main"; got != want {
		t.Errorf("what is made of main needs %q, want %q", got, want)
	}
	checkProgram(t, r, "_i7", r)
}

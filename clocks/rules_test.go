package clocks_test

import (
	"strings"
	"testing"
)

// P9.1: the examples of the chapter.
func TestExamples(t *testing.T) {
	checkLast(t, "type t = A | B; node f (x, c) = (y) where y = merge c (A -> x when A(c) | B -> 0); end", "x c y")
	checkLast(t, "type t = A | B; node f (x, c) = (y) where z = x when A(c); y = x; end", "x c z:c=A y")
	checkFault(t, clockFault(0, 0), "type t = A | B; node f (x, c) = (z) where z = x when A(c); end")
}

// P9.1: a constant can have any clock, and has the base clock where nothing asks for another one.
func TestConstants(t *testing.T) {
	for _, e := range []string{"1", "true", "False", "A", "One"} {
		checkVars(t, "y = "+e+";", "y")
		checkVars(t, "y = x; z = "+e+";", "y z")
		checkVars(t, "z = "+e+"; y = merge c (A -> z | B -> 0);", "z:c=A y")
		checkVars(t, "y = merge c (A -> "+e+" | B -> z); z = "+e+" -> w; w = w;", "y z:c=B w:c=B")
		checkVars(t, "y = x; z = "+e+" when B(d);", "y z:d=B")
		checkVars(t, "z = "+e+" when B(d) when A(w); w = x when B(d); y = e;", "z:d=B,w=A w:d=B y")
		checkItems(t, 0, "y = "+e+" when B(d);")
	}
}

// P9.1: a variable has one clock, whatever reads it and whatever comes first.
func TestVariables(t *testing.T) {
	checkVars(t, "y = x; z = y;", "y z")
	checkVars(t, "y = x; z = w; w = v; v = x when A(c);", "y z:c=A w:c=A v:c=A")
	checkVars(t, "v = x when A(c); w = v; z = w; y = x;", "v:c=A w:c=A z:c=A y")
	checkVars(t, "y = x; z = w; u = v; w = u; v = z; v2 = v + (x when B(e));", "y z:e=B u:e=B w:e=B v:e=B v2:e=B")
	checkItems(t, 2, "z = x when A(c); w = x when B(c); v = z + w; y = x;", "z = x when A(c); w = z; y = w;")
	checkItems(t, 1, "z = x when A(c); y = z;", "z = w; w = z when A(z); y = x;", "y = z; z = x when A(c);")
	checkItems(t, 3, "y = x; z = w; w = v; v = z + (x when A(z));", "y = x; z = w; w = x when A(c); v = z + (x when B(c));")
}

// alike are the expressions whose kids @ and # have one clock, which is that of the whole.
var alike = []string{"@ + #", "@ - #", "@ * #", "@ / #", "@ % #", "@ < #", "@ <= #", "@ = #", "@ <> #", "@ and #", "@ or #", "@ fby #", "@ -> #",
	"if @ then # else 1", "if @ then 1 else #", "if 1 then @ else #", "inc(@) every #", "third(@, 1, #)", "third(1, @, 2) every #", "third(1, @, #) every true", "- (@ + pre #)"}

func within(form, first, second string) string {
	return strings.NewReplacer("@", first, "#", second).Replace(form)
}

// inThird returns a program as inNode does, with a node third ahead of the last one.
func inThird(items string) string {
	return strings.Replace(inNode(items), "node twice", "node third (a, b, c) = (d) where d = a; end node twice", 1)
}

// P9.1: all kids of an operation, of an if, of a delay and of a call have one clock, which is that of the whole.
func TestOneClock(t *testing.T) {
	const ins = "x c d e "
	for _, form := range alike {
		checkLast(t, inThird("y = "+within(form, "x", "c")+";"), ins+"y")
		checkLast(t, inThird("y = "+within(form, "z", "w")+"; z = z; w = w;"), ins+"y z w")
		checkLast(t, inThird("y = x; z = "+within(form, "1", "2")+";"), ins+"y z")
		checkLast(t, inThird("y = x; v = x when A(c); z = "+within(form, "v", "1")+";"), ins+"y v:c=A z:c=A")
		checkLast(t, inThird("y = x; v = x when A(c); z = "+within(form, "1", "v")+";"), ins+"y v:c=A z:c=A")
		checkLast(t, inThird("y = x; v = x when A(c); z = "+within(form, "w", "v")+"; w = w;"), ins+"y v:c=A z:c=A w:c=A")
		checkLast(t, inThird("y = x; v = x when A(c); z = "+within(form, "v", "w")+"; w = 0 fby w;"), ins+"y v:c=A z:c=A w:c=A")
		checkLast(t, inThird("y = merge c (A -> "+within(form, "v", "w")+" | B -> 0); v = 1; w = 2;"), ins+"y v:c=A w:c=A")
		checkLast(t, inThird("z = "+within(form, "v", "w")+"; y = merge c (A -> 0 | B -> z); v = v; w = 2;"), ins+"z:c=B y v:c=B w:c=B")
		for _, kids := range [][2]string{{"x", "v"}, {"v", "x"}, {"u", "v"}, {"v", "u"}} {
			checkFault(t, clockFault(last+1, 2), inThird("v = x when A(c); u = x when B(c); z = "+within(form, kids[0], kids[1])+"; y = x;"))
		}
		checkFault(t, clockFault(last+1, 1), inThird("v = x when A(c); y = "+within(form, "v", "1")+";"), inThird("v = x when A(c); y = "+within(form, "1", "v")+";"))
	}
}

// P9.1: an expression with one kid has the clock of its kid.
func TestOneKid(t *testing.T) {
	for _, form := range []string{"- @", "not @", "pre @", "inc(@)", "inc(@) every true", "twice[inc](@)", "twice[inc](@) every (1 = 2)", "pre not - inc(pre @)"} {
		checkVars(t, "y = "+within(form, "x", "")+";", "y")
		checkVars(t, "y = x; z = "+within(form, "1", "")+";", "y z")
		checkVars(t, "y = x; z = "+within(form, "(x when A(c))", "")+";", "y z:c=A")
		checkVars(t, "y = x; z = "+within(form, "w", "")+"; w = 2; v = z + (x when B(d));", "y z:d=B w:d=B v:d=B")
		checkItems(t, 0, "y = "+within(form, "(x when A(c))", "")+";")
		checkItems(t, 1, "z = x when A(c); v = z + "+within(form, "x", "")+"; y = x;")
	}
}

// P9.1: a when has the clock of the variable that it names, with a sample more, and its kid has that of the variable.
func TestWhen(t *testing.T) {
	checkVars(t, "y = x; z = x when A(c);", "y z:c=A")
	checkVars(t, "y = x; z = c when A(c);", "y z:c=A")
	checkVars(t, "y = x; z = x when False(c); w = x when R(c); v = 1 when One(d);", "y z:c=False w:c=R v:d=One")
	checkVars(t, "y = x; w = d when A(c); z = x when A(c) when P(w);", "y w:c=A z:c=A,w=P")
	checkVars(t, "y = x; z = 1 when B(w) when Q(v); v = 1 when B(w); w = d when A(c);", "y z:c=A,w=B,v=Q v:c=A,w=B w:c=A")
	checkVars(t, "y = x; z = v when A(w); v = v; w = x when B(d);", "y z:d=B,w=A v:d=B w:d=B")
	checkVars(t, "y = x; z = v when A(w); w = w; v = x when B(d);", "y z:d=B,w=A w:d=B v:d=B")
	checkItems(t, 0, "z = x when A(c) when A(c); y = x;", "z = x when A(c) when B(d); y = x;", "z = (x when A(c)) + (x when B(c)); y = x;",
		"z = (x when A(c)) + (x when A(d)); y = x;", "z = (x when A(c)) + x; y = x;", "z = x when A(z); y = x;", "z = z when A(z); y = x;", "z = 1 when A(z); y = x;",
		"z = z when A(c); y = x;", "y = z when A(c); z = z;", "z = (1 when A(w)) + w; w = w; y = x;", "z = (1 when A(w)) + (1 when B(w)); w = w; y = x;",
		"z = (1 when A(w)) + (1 when A(v)); w = w; v = v; y = x;", "z = x when A(c) when A(z); y = x;")
	checkItems(t, 1, "w = d when A(c); z = x when A(w); y = x;", "w = d when A(c); z = w when A(c); y = x;", "w = d when B(c); z = x when A(c) when P(w); y = x;",
		"w = d when A(c); z = x when P(w) when A(c); y = x;", "z = 1 when A(w); w = z; y = x;", "z = 1 when A(w); w = 1 when B(z); y = x;", "z = 1 when A(w); w = x when A(z); y = x;")
	checkItems(t, 2, "z = 1 when A(w); w = 1 when B(v); v = z; y = x;", "z = 1 when A(w); w = 1 when B(v); v = 1 when A(z); y = x;", "z = 1 when A(w); w = v; v = z; y = x;")
}

// P9.1: a merge has the clock of the variable that it names, and each kid that clock with the sample of its constructor.
func TestMerge(t *testing.T) {
	checkVars(t, "y = merge c (A -> z | B -> w); z = 1; w = 2;", "y z:c=A w:c=B")
	checkVars(t, "y = merge c (P -> z | Q -> w | R -> v); z = 1; w = 2; v = 3;", "y z:c=P w:c=Q v:c=R")
	checkVars(t, "y = merge c (False -> z | True -> x when True(c)); z = 1;", "y z:c=False")
	checkVars(t, "y = merge c (One -> z); z = z;", "y z:c=One")
	checkVars(t, "y = x; z = merge w (A -> v | B -> 1); v = v; w = d when One(e);", "y z:e=One v:e=One,w=A w:e=One")
	checkVars(t, "y = merge c (A -> merge w (P -> 1 | Q -> v | R -> u) | B -> v2); w = P; v = 1; u = 2; v2 = 3;", "y w:c=A v:c=A,w=Q u:c=A,w=R v2:c=B")
	checkVars(t, "z = merge w (A -> v | B -> u); v = 1; u = u; w = w; y = merge c (A -> z | B -> 1);", "z:c=A v:c=A,w=A u:c=A,w=B w:c=A y")
	checkItems(t, 0, "y = merge c (A -> x when B(c) | B -> 0);", "y = merge c (A -> 0 | B -> x when A(c));", "y = merge c (A -> x | B -> 0);", "y = merge c (A -> 0 | B -> x);",
		"y = merge c (A -> x when A(d) | B -> 0);", "y = merge c (One -> x);", "y = merge c (P -> 1 | Q -> x when R(c) | R -> 2);", "y = merge c (P -> 1 | Q -> 2 | R -> x when Q(c));",
		"y = merge c (A -> merge c (A -> 1 | B -> 2) | B -> 3);", "y = merge c (A -> merge d (A -> 1 | B -> 2) | B -> 3);", "y = merge c (A -> c | B -> 1);",
		"y = merge c (A -> z | B -> z); z = z;", "z = merge c (A -> z | B -> 1); y = x;", "z = merge z (A -> z | B -> 1); y = x;", "y = merge y (A -> 1 | B -> y);",
		"y = (merge c (A -> 1 | B -> 2)) when A(c);", "z = (x when A(c)) + merge c (A -> 1 | B -> 2); y = x;")
	checkItems(t, 1, "w = x when A(c); y = merge w (A -> 1 | B -> 2);", "y = merge w (A -> 1 | B -> 2); w = x when A(c);", "y = merge c (A -> z | B -> 0); z = x;",
		"y = merge c (A -> z | B -> 0); w = merge c (A -> 0 | B -> z); z = z;", "y = merge c (A -> z | B -> 0); w = merge d (A -> z | B -> 0); z = z;",
		"z = merge w (A -> 1 | B -> v); w = v; v = v; y = x;", "z = merge w (A -> 1 | B -> v); v = z; w = w; y = x;")
	checkItems(t, 2, "w = x when A(c); z = x when A(c); y = merge w (A -> z | B -> 2);", "w = P when A(c); z = 1 when Q(w); y = merge c (A -> merge w (P -> z | Q -> 1 | R -> 2) | B -> 0);")
}

// P9.1: a merge by a variable of no clock yet has the clock of that variable wherever it comes to stand.
func TestMergeOfOpen(t *testing.T) {
	checkVars(t, "y = merge w (A -> 1 | B -> 2); w = w;", "y w")
	checkVars(t, "z = merge w (A -> 1 | B -> 2); w = w; y = x;", "z w y")
	checkVars(t, "z = merge w (A -> v | B -> u); w = w; v = v; u = v2 when B(w); v2 = v2; y = x;", "z w v:w=A u:w=B v2 y")
}

// P9.1: the kids of a call have one clock, which all of its results have, whatever is called.
func TestCalls(t *testing.T) {
	checkVars(t, "(y, z) = two(x, 1);", "y z")
	checkVars(t, "y = x; (z, w) = two(1, 2);", "y z w")
	checkVars(t, "y = x; (z, w) = two(1, v); v = x when A(c);", "y z:c=A w:c=A v:c=A")
	checkVars(t, "y = x; (z, w) = two(v, 1); v = x when A(c);", "y z:c=A w:c=A v:c=A")
	checkVars(t, "y = x; (z, w) = two(1, v); v = v; u = w + (x when B(d));", "y z:d=B w:d=B v:d=B u:d=B")
	checkVars(t, "y = x; (z, w) = two(1, v) every u; v = v; u = u; z2 = z + (x when B(d));", "y z:d=B w:d=B v:d=B u:d=B z2:d=B")
	checkVars(t, "y = x; (z, w) = two(1, 2) every v; v = x when P(c);", "y z:c=P w:c=P v:c=P")
	checkVars(t, "y = inc(twice[inc](inc(x) every c) every (d = e));", "y")
	checkItems(t, 0, "(y, z) = two(x when A(c), 1);", "(z, y) = two(1, 2) every (x when A(c));", "(z, w) = two(x when A(c), x); y = x;", "(z, w) = two(x, x when A(c)); y = x;",
		"(z, w) = two(x, 1) every (x when A(c)); y = x;", "(z, w) = two(x when A(c), 1) every c; y = x;", "y = inc(x when A(c));", "y = inc(1) every (x when A(c));",
		"z = twice[inc](x when A(c)) every x; y = x;", "z = inc(inc(x when A(c)) every d); y = x;", "(y, z) = two(z when A(z), 1);")
	checkItems(t, 1, "(y, z) = two(1, 2); w = z + (x when A(c));", "(z, y) = two(1, 2); w = z + (x when A(c));", "(z, w) = two(1, 2); v = z when A(w) + z; y = x;",
		"(z, w) = two(1, 2); v = z + (1 when A(w)); y = x;", "z = x when A(c); (y, w) = two(z, 1);", "z = x when A(c); (w, y) = two(z, 1);")
	checkItems(t, 2, "z = x when A(c); w = x when B(c); (z2, w2) = two(z, w); y = x;", "z = x when A(c); y = x; (w, v) = two(1, 2) every (z + x);",
		"z = x when A(c); (w, v) = two(1, 2); y = merge c (A -> w + z | B -> v);")
}

// P9.1: a call of a static parameter is a call as any other one.
func TestStaticCalls(t *testing.T) {
	const head = "type t = A | B; node two (a, b) = (c, d) where c = b; d = a; end node f [g, h] (x, c) = (y) where "
	checkLast(t, head+"y = g(x, 1); z = h(x when A(c)); end", "x c y z:c=A")
	checkLast(t, head+"y = x; z = x when A(c); (w, v) = g(1, z) every u; u = h(u); end", "x c y z:c=A w:c=A v:c=A u:c=A")
	checkFault(t, clockFault(1, 0), head+"y = g(x, x when A(c)); z = h(1); end", head+"y = h(g(x when A(c))); end", head+"(z, y) = h(x when B(c)); w = g(1); end")
	checkFault(t, clockFault(1, 1), head+"z = g(1) every h(x when A(c)); y = g(z); end")
}

// P9.1: Ins and Outs have the base clock.
func TestParameters(t *testing.T) {
	const head = "type t = A | B; node f (x, c) = (y, z, w) where "
	checkLast(t, head+"y = 1; z = c; w = y; v = v; end", "x c y z w v")
	checkFault(t, clockFault(0, 0), head+"y = 1 when A(c); z = 1; w = 1; end", head+"z = 1 when A(c); y = 1; w = 1; end", head+"w = 1 when A(c); y = 1; z = 1; end")
	checkFault(t, clockFault(0, 2), head+"y = z; w = 1; z = 1 when A(w); end", head+"v = 1 when A(c); y = 1; w = v; z = 1; end", head+"y = 1; z = y; v = z + (y when A(w)); w = 1; end")
	// The base clock ends with no sample, even of a variable whose own clock is still open.
	checkFault(t, clockFault(0, 0), head+"y = 1 when A(v); z = 1; w = 1; v = v; end", head+"y = u when A(v); z = 1; w = 1; v = v; u = u; end", head+"v = x + (1 when A(v)); y = 1; z = 1; w = 1; end")
	checkFault(t, clockFault(0, 1), head+"u = 1 when A(v); w = u; y = 1; z = 1; v = v; end", head+"u = 1 when A(v); v = merge c (A -> u | B -> u); y = 1; z = 1; w = 1; end", head+"u = pre v; y = merge c (A -> u | B -> v); z = 1; w = 1; v = v; end")
	checkFault(t, clockFault(0, 3), head+"y = 1; z = y; w = z; v = w + (1 when A(y)); end", head+"y = 1; z = 2; w = 3; v = merge c (A -> y | B -> 1); end")
}

// P9.1: what the rules leave open of a clock is the base clock.
func TestOpen(t *testing.T) {
	checkVars(t, "y = x; z = z;", "y z")
	checkVars(t, "y = x; z = pre z; w = z when A(z);", "y z w:z=A")
	checkVars(t, "y = x; z = 1 when A(w); w = 1 when B(v); v = 1 when P(u); u = u;", "y z:u=P,v=B,w=A w:u=P,v=B v:u=P u")
	checkVars(t, "y = x; u = u; v = 1 when P(u); w = 1 when B(v); z = 1 when A(w);", "y u v:u=P w:u=P,v=B z:u=P,v=B,w=A")
	checkVars(t, "y = x; z = w + v; w = 1 when A(u); v = 1 when A(u); u = u;", "y z:u=A w:u=A v:u=A u")
	checkVars(t, "y = x; z = merge u (A -> w | B -> v); w = w; v = v; u = 1 when R(v2); v2 = pre v2;", "y z:v2=R w:v2=R,u=A v:v2=R,u=B u:v2=R v2")
	checkVars(t, "y = x; z = w; w = v; v = 1; u = 1 when A(z);", "y z w v u:z=A")
	// Several open beginnings, which are found one after the other.
	checkVars(t, "a = 1 when A(b); p = 1 when A(q); q = a; b = 1 when B(r); r = d when One(e); y = x;",
		"a:e=One,r=B,b=A p:e=One,r=B,b=A,q=A q:e=One,r=B,b=A b:e=One,r=B r:e=One y")
	checkItems(t, 4, "a = 1 when A(b); p = 1 when A(q); q = a; b = 1 when B(r); r = p; y = x;", "a = 1 when A(b); p = 1 when A(q); q = a; y = x; b = b when B(p);")
}

// P9.1: the first item at which the equations cannot have clocks together is told, whatever follows.
func TestFirstItem(t *testing.T) {
	checkItems(t, 0, "y = x when A(c); z = x when A(c) + x;", "z = z when A(z); y = x when A(c);")
	checkItems(t, 1, "z = x when A(c); y = z; w = y when A(z);", "y = x; w = w when B(w); z = z when A(c);")
	checkItems(t, 2, "z = x when A(c); y = x; w = z + y; v = w when A(w) when A(w);", "z = w; w = v; v = v when A(z); y = x;", "v = v; z = x when A(c); w = z + x; y = v;")
	checkItems(t, 3, "y = x; z = x when A(c); w = z; v = w + x;", "a = b; b = e2; y = x; e2 = a when A(b);")
}

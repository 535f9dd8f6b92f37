package first_test

import (
	"strconv"
	"strings"
	"testing"

	"pendule/api"
)

// P10.1: the examples of the chapter.
func TestExamples(t *testing.T) {
	checkFault(t, initFault(0, -1), "node f (x) = (y) where y = pre x; end")
	checkAll(t, "node f (x) = (y) where y = 0 -> pre x; end", "x y")
	checkAll(t, "node f (x) = (y) where z = pre x; y = x; end", "x z? y")
	checkFault(t, initFault(0, 0), "node f (x) = (y) where z = pre pre x; y = x; end")
	checkFault(t, initFault(0, 1), "node f (x) = (y) where y = x; z = pre pre x; end")
}

// passing are the expressions that are open if @ is.
var passing = []string{"- @", "not @", "@ when A(c)", "@ when False(x)", "if @ then 0 else 1", "if x then @ else 1", "if x then 0 else @", "@ fby 0", "@ -> 0", "@ -> pre 0", "@ fby x", "@",
	"0 - (1 + - @)", "if x then @ when A(c) else 0", "(@ fby 2 + x) -> 3"}

// binary are the operators with two operands.
var binary = []string{"+", "-", "*", "/", "%", "<", "<=", "=", "<>", "and", "or"}

// demanding are expressions in which @ must be firm. All but the first one are firm if @ is.
var demanding = []string{"pre @", "0 fby @", "x fby @", "merge c (A -> @ | B -> 0)", "merge c (A -> 0 | B -> @)", "merge c (One -> @)", "merge x (False -> 0 | True -> @)",
	"inc(@)", "third(@, 0, 1)", "third(0, @, 1)", "third(0, 1, @)", "twice[inc](@)", "inc(@) every c", "third(0, @, 1) every true", "third(0, 1, @) every c", "inc(x) every @", "twice[inc](x) every @", "inc(1) every (1 + @)"}

func within(form, e string) string { return strings.ReplaceAll(form, "@", "("+e+")") }

// opened are expressions that are open, where z is.
var opened = []string{"pre x", "z", "1 + z", "pre 0 -> 1", "z fby z2", "pre true", "pre inc(x)"}

// defined are expressions that are firm, whatever z is.
var defined = []string{"x", "1", "true", "A", "False", "-1", "z2", "0 -> z", "0 -> pre x", "x fby z2", "inc(x)", "twice[inc](2) every x", "merge c (A -> x | B -> 2)", "x when A(c)", "if x then 1 else z2"}

// tail defines what opened and defined use: z, which is open, z2, which is firm, and the Out.
const tail = " z = pre x; z2 = 0 -> z; y = z2;"

// P10.1, P10.2: a variable is open exactly if the expression is that defines it.
func TestEquations(t *testing.T) {
	for _, e := range opened {
		checkVars(t, "w = "+e+";"+tail, "w? z? z2 y")
		checkVars(t, "w = v; v = "+e+";"+tail, "w? v? z? z2 y")
		checkItems(t, -1, "y = "+e+"; z = pre x; z2 = x;")
	}
	for _, e := range defined {
		checkVars(t, "w = "+e+";"+tail, "w z? z2 y")
		checkVars(t, "w = v; v = "+e+";"+tail, "w v z? z2 y")
		checkVars(t, "y = "+e+"; z = pre x; z2 = x;", "y z? z2")
	}
}

// P10.1: an operation, an if and a when are open if one of their kids is, a fby and an arrow if the first one is.
func TestPassing(t *testing.T) {
	for _, form := range passing {
		for _, e := range opened {
			checkVars(t, "w = "+within(form, e)+";"+tail, "w? z? z2 y")
		}
	}
	for _, op := range binary {
		for _, e := range opened {
			checkVars(t, "w = ("+e+") "+op+" 1;"+tail, "w? z? z2 y")
			checkVars(t, "w = 1 "+op+" ("+e+");"+tail, "w? z? z2 y")
			checkVars(t, "w = ("+e+") "+op+" ("+e+");"+tail, "w? z? z2 y")
		}
	}
}

// P10.1: what has firm kids is firm, but for a pre.
func TestFirm(t *testing.T) {
	for _, e := range defined {
		for _, form := range passing {
			checkVars(t, "w = "+within(form, e)+";"+tail, "w z? z2 y")
		}
		for _, op := range binary {
			checkVars(t, "w = ("+e+") "+op+" 1; v = 1 "+op+" ("+e+");"+tail, "w v z? z2 y")
		}
		for _, form := range demanding[1:] {
			checkVars(t, "w = "+within(form, e)+";"+tail, "w z? z2 y")
		}
		checkVars(t, "w = "+within(demanding[0], e)+";"+tail, "w? z? z2 y")
	}
}

// P10.1: the second kid of an arrow may be open, and the whole is firm.
func TestArrow(t *testing.T) {
	for _, e := range opened {
		checkVars(t, "w = 0 -> ("+e+");"+tail, "w z? z2 y")
		checkVars(t, "w = x -> 1 -> ("+e+");"+tail, "w z? z2 y")
		checkVars(t, "w = inc(x -> ("+e+")) fby (1 -> ("+e+") + 1) -> 2;"+tail, "w z? z2 y")
		checkVars(t, "w = pre (x -> ("+e+"));"+tail, "w? z? z2 y")
		checkVars(t, "w = (z -> ("+e+"));"+tail, "w? z? z2 y")
	}
}

// contexts are firm expressions with @ somewhere in them, at a place where it need not be firm.
var contexts = []string{"0 -> @", "1 + (0 -> @)", "not (x -> - @)", "inc(0 -> @)", "inc(x) every (0 -> @)", "merge c (A -> 0 -> @ | B -> 1)", "pre (1 -> 2 -> @)", "0 fby (1 -> @)", "(0 -> @) when A(c)",
	"if x then 0 -> @ else 1", "(0 -> @) -> 1", "(0 -> @) fby 1", "x -> if @ then 1 else 2", "x -> @ when A(c)", "x -> @ fby 2"}

// P10.1: the kids of a pre, of a merge and of a call and the second ones of a fby and of an every must be firm, at any depth.
func TestDemanding(t *testing.T) {
	for _, form := range demanding {
		for _, e := range opened {
			w := within(form, e)
			checkItems(t, 1, "y = x; w = "+w+"; z = pre x; z2 = x;")
			checkItems(t, 0, "y = "+w+"; z = pre x; z2 = x;")
			checkItems(t, 2, "z = pre x; z2 = 0 -> z; w = - ("+w+"); y = w;")
		}
		for _, context := range contexts {
			checkItems(t, 0, "y = "+within(context, within(form, "z"))+"; z = pre x;")
			checkItems(t, 1, "y = x; w = "+within(context, within(form, "pre 1"))+";")
		}
	}
	for _, outer := range demanding {
		for _, inner := range demanding {
			checkItems(t, 1, "z = pre x; y = 0 -> "+within(outer, "0 -> "+within(inner, "z"))+";")
		}
	}
}

// P10.1: the variable that a when or a merge names must be firm.
func TestNamed(t *testing.T) {
	for _, form := range []string{"x when A(@)", "1 when False(@)", "merge @ (A -> 0 | B -> 1)", "merge @ (One -> x)", "(@ when A(@))"} {
		named := func(v string) string { return strings.ReplaceAll(form, "@", v) }
		for _, v := range []string{"x", "c", "z2", "v", "y"} {
			checkVars(t, "w = "+named(v)+"; v = inc(1);"+tail, "w v z? z2 y")
		}
		checkVars(t, "w = "+named("w")+"; y = x;", "w y")
		for _, v := range []string{"z", "v"} {
			checkItems(t, 1, "v = - z; w = "+named(v)+";"+tail)
			for _, context := range contexts {
				checkItems(t, 1, "v = 1 + v + z; w = "+within(context, named(v))+";"+tail)
			}
		}
	}
	// A variable that is open because of the expression that samples by it, or by its own delay.
	checkItems(t, 0, "w = pre x when A(w); y = x;", "w = pre x -> x when A(w); y = x;", "w = pre x + merge w (A -> 0 | B -> 1); y = x;", "y = pre x when A(y);")
	checkVars(t, "w = x when A(w) + w; y = w;", "w y")
	checkVars(t, "w = 0 -> pre x when A(w); y = w;", "w y")
}

// P10.1: a parameter, and what an equation with several names defines, is firm.
func TestSeveralNames(t *testing.T) {
	checkVars(t, "(y, z) = two(x, c);", "y z")
	checkVars(t, "(y, z) = two(z, y);", "y z")
	checkVars(t, "(y, z) = two(0 -> w, 0 -> w) every (0 fby y); w = pre (z + x + c);", "y z w?")
	checkVars(t, "w = x + z; y = w fby c; (z, v) = two(1, 2) every false;", "w y z v")
	checkItems(t, 0, "(y, z) = two(pre x, 1);", "(y, z) = two(1, pre x);", "(y, z) = two(1, 2) every pre x;", "(y, z) = two(w, 2) every x; w = pre 1;", "(y, z) = two(w, 2); w = pre y;")
	checkItems(t, -1, "(w, z) = two(1, 2); y = pre w;")
	checkAll(t, "node f [g] (x) = (y, z) where (y, z) = g(x); w = pre z; end", "x y z w?")
}

// P10.1: all Outs must be firm, and where only they are not, there is no item to tell.
func TestOuts(t *testing.T) {
	const head = "node f (x) = (a, b, c) where "
	checkAll(t, head+"a = x; b = 1; c = 0 -> pre x; end", "x a b c")
	checkFault(t, initFault(0, -1), head+"a = pre x; b = 1; c = x; end", head+"a = 1; b = pre x; c = x; end", head+"c = pre x; a = 1; b = x; end", head+"a = w; b = w; c = w; w = pre x; end",
		head+"a = x; b = a + c; c = pre x -> 1; end")
	checkFault(t, initFault(0, 1), head+"a = pre x; b = pre a; c = 0; end", head+"c = pre x; b = 0 -> pre (c + 1); a = 0; end", head+"a = x; b = 0 fby c; c = pre x; end")
	checkFault(t, initFault(0, 3), head+"a = pre x; b = pre x; c = a; w = 0 -> pre b; end")
}

// P10.2: of variables that depend on one another, only those are open that a pre opens.
func TestSmallest(t *testing.T) {
	checkVars(t, "y = y;", "y")
	checkVars(t, "y = z; z = w; w = y;", "y z w")
	checkVars(t, "y = z + w; z = if w then y else x; w = z -> y;", "y z w")
	checkVars(t, "z = z + pre x; y = x;", "z? y")
	checkVars(t, "z = w; w = v; v = z + u; u = pre x; y = x;", "z? w? v? u? y")
	checkVars(t, "u = pre x; v = z + u; w = v; z = w; y = x;", "u? v? w? z? y")
	checkVars(t, "y = z; z = 0 -> w; w = pre y; v = w + u; u = u -> v;", "y z w? v? u")
	checkVars(t, "y = z; z = x fby z; w = w -> u; u = w fby z;", "y z w u")
	checkVars(t, "z = x -> z; w = w -> pre z; v = v + w; u = u fby z; y = inc(u + v + w);", "z w v u y")
	checkItems(t, 1, "z = z + w; y = 0 fby z; w = w + v; v = pre x;")
	checkItems(t, -1, "y = z; z = y + w; w = z + pre x;")
}

// P10.2: a node without a pre has no open variable.
func TestWithoutPre(t *testing.T) {
	for _, form := range append(append([]string{}, passing...), demanding[1:]...) {
		if !strings.Contains(form, "pre") {
			checkVars(t, "w = "+within(form, "w")+"; z = w; v = "+within(form, "z + w")+"; y = "+within(form, "v")+";", "w z v y")
		}
	}
	checkAll(t, prelude+"node f [g, h] (x) = (y, z) where (y, z) = g(h(x)) every w; w = w when True(w); end", "a b / a b c d / a b c d / a b / x y z w")
}

// P10.1: the first item with a violation is told, whatever follows.
func TestFirstItem(t *testing.T) {
	checkItems(t, 0, "y = pre z; z = pre w; w = pre x;", "y = 0 -> inc(z); z = pre x; w = pre z;")
	checkItems(t, 1, "z = pre x; y = merge z (A -> 1 | B -> 2); w = pre z;", "y = z; z = x when A(w); w = pre x;")
	checkItems(t, 2, "y = w; z = pre x; w = 0 fby z; v = 0 fby w; u = pre z;")
	checkItems(t, 3, "z = w; w = v; v = pre x; y = inc(z);")
	text, many := "y = x;", api.MaxItems-1
	for i := range many - 1 {
		text += " z" + strconv.Itoa(i) + " = z" + strconv.Itoa(i+1) + ";"
	}
	checkItems(t, -1, strings.Replace(text, "y = x", "y = z0", 1)+" z"+strconv.Itoa(many-1)+" = pre x;")
	checkItems(t, many, text+" z"+strconv.Itoa(many-1)+" = pre pre x;")
}

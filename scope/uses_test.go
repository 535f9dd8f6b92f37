package scope_test

import (
	"strings"
	"testing"
)

// P5.1: a variable that is used is one of the node.
func TestVariables(t *testing.T) {
	checkExprs(t, true, "x", "c", "y", "z", "1", "true", "false",
		"1 when Red(c)", "1 when Red(y)", "merge c (False -> 1 | True -> 2)", "merge z (False -> 1 | True -> 2)", "match x (One -> 1)", "match y (One -> 1)")
	checkExprs(t, false, "a", "f", "g", "two", "colour", "x + a", "g(x, a)", "inc(a)", "pre a", "a fby x", "x -> pre (1 + a)", "if x then x else a",
		"1 when Red(a)", "a when Red(c)", "1 when Red(g)", "1 when Red(inc)", "a when Red(x) when Green(c)", "1 when Red(a) when Green(c)",
		"merge a (False -> 1 | True -> 2)", "merge c (False -> 1 | True -> a)", "merge g (False -> 1 | True -> 2)",
		"match a (False -> 1 | True -> 2)", "match c (False -> a | True -> 2)", "match g (False -> 1 | True -> 2)", "inc(x) every a", "inc(a) every x")
	checkItems(t, 0, "y = x + b; z = x;", "automaton state A: y = b; end;", "automaton state A: y = A; until y then A; end;")
	checkRightItems(t, "z = y; automaton state A: y = z; until z then A; end;", "y = a; (z, a) = two(y, z);")
}

// P5.1: the variables of other nodes are none of this one.
func TestVariablesOfOtherNodes(t *testing.T) {
	checkRight(t, "node f (a) = (b) where d = a; b = d; end node g (b) = (a) where d = b; a = d; end")
	checkWrong(t, 1, 0, "node f (a) = (b) where b = a; end node g (c) = (d) where d = a; end", "node f (a) = (b) where b = a; end node g (c) = (d) where d = b; end",
		"node f [k] (a) = (b) where b = k(a); end node g (c) = (d) where d = k(c); end")
	checkWrong(t, 0, 0, "node f (a) = (b) where b = d; end node g (c) = (d) where d = c; end")
}

// P5.1: a constructor that is used is one of the program.
func TestConstructors(t *testing.T) {
	checkExprs(t, true, "Red", "Blue", "One", "False", "True", "x = Green", "1 when One(c)", "1 when False(x)", "1 when True(x)")
	checkExprs(t, false, "A", "Black", "x = Black", "inc(Black)", "1 when Black(c)", "Black when Red(c)", "merge c (Black -> 1)", "merge c (False -> 1 | True -> Black)",
		"match c (Black -> 1)", "match c (One -> Black)", "inc(x) every Black", "inc(Black) every x")
	checkItems(t, 1, "automaton state A: z = x; end; y = A;", "automaton state A: z = x; end; y = 1 when A(x);", "automaton state A: z = x; end; y = merge x (A -> 1);")
	checkItems(t, 0, "automaton state A: y = A; end;", "automaton state A: y = x; until y = A then A; end;", "automaton state A: y = x; state B: y = Black; end;")
}

// P5.1: the constructors of a merge or a match are all those of one type, in its order.
func TestCompleteMerges(t *testing.T) {
	arms := func(cons string) string {
		var l []string
		for _, c := range strings.Fields(cons) {
			l = append(l, c+" -> 1")
		}
		return " (" + strings.Join(l, " | ") + ")"
	}
	for _, s := range []string{"merge c", "match c"} {
		checkExprs(t, true, s+arms("Red Green Blue"), s+arms("One"), s+arms("False True"))
		checkExprs(t, false, s+arms("Red"), s+arms("Red Green"), s+arms("Green Blue"), s+arms("Red Blue"), s+arms("Red Blue Green"), s+arms("Blue Green Red"),
			s+arms("Red Green Blue One"), s+arms("One Red Green Blue"), s+arms("Red Green Blue Blue"), s+arms("Red Green Green"), s+arms("Red Red Green Blue"),
			s+arms("One One"), s+arms("True False"), s+arms("False"), s+arms("True"), s+arms("False True True"), s+arms("False True One"), s+arms("Red Green One"), s+arms("False One"),
			s+arms("A"), s+arms("Red Green Blue A"), s+arms("Red Green A"))
	}
	checkWrong(t, 0, 0, "node f (x) = (y) where y = merge x (Red -> 1); end", "type t = A | B; node f (x) = (y) where y = merge x (True -> 1 | False -> 2); end")
}

// sampled are expressions that may not stand in a state or in a match.
var sampled = []string{"1 when Red(c)", "merge c (One -> 1)", "match c (One -> 1)"}

// deep are expressions around another one.
var deep = []string{"@", "- @", "x + @", "@ * x", "if @ then x else x", "if x then @ else x", "if x then x else @", "@ fby x", "x fby @", "@ -> x", "x -> @", "pre @",
	"g(x, @)", "inc(inc(@))", "inc(@) every x", "inc(x) every (@)", "g(x + pre (2 fby @))"}

// P5.1: no sample, merge or match stands in a state.
func TestSamplesInStates(t *testing.T) {
	for _, around := range deep {
		text := strings.Replace(around, "@", "(x + 1)", 1)
		checkRightItems(t, "automaton state A: y = "+text+"; until "+text+" then A; end;")
		for _, e := range sampled {
			e = strings.Replace(around, "@", "("+e+")", 1)
			checkRightItems(t, "y = "+e+"; automaton state A: z = x; until x then A; end;")
			checkItems(t, 1, "z = x; automaton state A: y = "+e+"; end;", "z = x; automaton state A: y = x; until "+e+" then A; end;",
				"z = x; automaton state A: y = x; until x then A; state B: y = x; until x then B; until x then A; until "+e+" then A; end;",
				"z = x; automaton state A: y = x; a = y; state B: y = x; a = "+e+"; end;")
		}
	}
}

// P5.1: no sample, merge or match stands in a match; a match may stand in a sample and in a merge.
func TestSamplesInMatches(t *testing.T) {
	for _, around := range deep {
		checkExpr(t, "match c (One -> "+strings.Replace(around, "@", "(x + 1)", 1)+")", true)
		for _, e := range sampled {
			e = strings.Replace(around, "@", "("+e+")", 1)
			checkItems(t, 1, "z = 1; y = match c (One -> "+e+");", "z = 1; y = match c (False -> x | True -> "+e+");", "z = 1; y = match c (False -> "+e+" | True -> x);",
				"z = 1; y = merge c (One -> match c (One -> "+e+"));")
			checkRightItems(t, "y = "+e+" when Red(c);", "y = merge c (One -> "+e+");", "y = inc(match c (One -> x)) + "+e+";")
		}
	}
}

// P5.1: the callee is a static parameter, or an earlier node.
func TestCallees(t *testing.T) {
	checkExprs(t, true, "inc(x)", "g(x)", "h(x)", "inc(g(h(x)))")
	checkExprs(t, false, "f(x)", "x(x)", "y(x)", "later(x)", "colour(x)", "inc(f(x))", "inc(later(x))", "later(x) every x", "inc(x) every later(x)")
	checkWrong(t, 0, 0, "node f (x) = (y) where y = g(x); end node g (x) = (y) where y = x; end", "node f (x) = (y) where y = f(x); end")
	checkWrong(t, 1, 1, "node f (x) = (y) where y = x; end node g (x) = (y) where z = f(x); y = g(z); end",
		"node f (x) = (y) where y = x; end node g (x) = (y) where z = f(x); y = h(z); end node h (x) = (y) where y = x; end")
	checkRight(t, "node f (x) = (y) where y = x; end node g (x) = (y) where y = f(x); end node h (x) = (y) where y = g(f(x)); end",
		"node f [g] (x) = (y) where y = g(x, 1); end node g (x) = (y) where y = x; end node h (x) = (y) where y = g(x); end")
}

// P5.1: a call of a node gives it what it takes.
func TestArguments(t *testing.T) {
	checkExprs(t, false, "inc(x, x)", "inc(x, x, x)", "inc[g](x)", "inc[inc](x)", "twice(x)", "twice[g](x, x)", "twice[g, h](x)", "twice[g, inc](x)")
	checkItems(t, 0, "(y, z) = two(x);", "(y, z) = two(x, x, x);", "(y, z) = two[inc](x, x);", "(y, z) = two(x) every x;")
	checkRightItems(t, "(y, z) = two(x, x);", "y = g(x); z = g(x, x);", "y = g(x, x, x, x, x, x) + h(g(x));")
}

// P5.1: a static argument is a static parameter of the caller, or an earlier node without any.
func TestStaticArguments(t *testing.T) {
	checkExprs(t, true, "twice[inc](x)", "twice[g](x)", "twice[h](x)", "twice[two](x)", "twice[g](twice[inc](x)) every x")
	checkExprs(t, false, "twice[twice](x)", "twice[f](x)", "twice[x](x)", "twice[y](x)", "twice[later](x)", "twice[colour](x)", "inc(twice[twice](x))")
	checkExprs(t, false, "g[inc](x)", "g[g](x)", "g[h](x)", "h[g, h](x)", "g[inc](x) every x")
	both := "node both [a, b] (x) = (y) where y = a(b(x)); end node f [g] (x) = (y) where "
	checkRight(t, colours+both+"y = both[g, inc](x) + both[inc, g](x) + both[g, g](x); end")
	checkWrong(t, last+1, 0, colours+both+"y = both[g](x); end", colours+both+"y = both[g, g, g](x); end", colours+both+"y = both(x); end",
		colours+both+"y = both[g, both](x); end", colours+both+"y = both[twice, g](x); end", colours+both+"y = both[g, f](x); end", colours+both+"y = both[a, g](x); end")
}

// P5.1: a call has as many results as its equation has names, if it is all of the equation, and else one.
func TestResults(t *testing.T) {
	checkExprs(t, false, "two(x, x)", "inc(two(x, x))", "two(x, x) every x", "inc(x) every two(x, x)")
	checkRightItems(t, "(y, z) = two(x, x);", "(y, z) = two(x, x) every x;", "(y, z) = (two(inc(x), g(x)) every g(x));", "(y) = inc(x);", "y = inc(x) every x;",
		"(y, z, a) = g(x);", "(y, z, a) = g(x) every c; b = g(x);", "automaton state A: y = inc(x) every inc(x); end;")
	checkItems(t, 1, "a = x; y = two(x, x);", "a = x; (y, z) = inc(x);", "a = x; (y, z, b) = two(x, x);", "a = x; (y, z) = inc(x) every x;", "a = x; y = two(x, x) every x;",
		"a = x; (y, z, b) = two(x, x) every x;", "a = x; (y, z) = two(two(x, x), x);", "a = x; (y, z) = two(x, two(x, x)) every x;", "a = x; (y, z) = two(x, x) every two(x, x);",
		"a = x; (y, z) = g(two(x, x));", "a = x; (y, z) = g(x) every two(x, x);", "a = x; automaton state A: y = two(x, x); end;",
		"a = x; automaton state A: y = two(x, x) every x; end;", "a = x; automaton state A: y = x; until two(x, x) then A; end;")
}

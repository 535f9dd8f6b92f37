package scope_test

import "testing"

// P5.1: the examples of the chapter.
func TestExamples(t *testing.T) {
	checkWrong(t, 0, 0, "node f(x) = (y) where y = z; end")
	checkWrong(t, 0, -1, "node f(x) = (y) where end")
}

// plain is a node that has no fault.
const plain = " node f (x) = (y) where y = x; end "

// P5.1: names of enums and their constructors are defined once.
func TestEnums(t *testing.T) {
	checkRight(t, "type t = A;"+plain, "type t = A | B; type u = C | D; type v = E;"+plain,
		"type f = A; type x = B; type y = C;"+plain, "type t = T | False_ | F;"+plain)
	checkWrong(t, -1, 0, "type t = A | A;"+plain, "type t = A | B | A;"+plain, "type t = False;"+plain, "type t = A | True;"+plain,
		"type t = False | True;"+plain, "type t = A | A; type t = True;"+plain)
	checkWrong(t, -1, 1, "type t = A; type t = B;"+plain, "type t = A | B; type u = C | B;"+plain, "type t = A; type u = B | C | B;"+plain,
		"type t = A; type u = True;"+plain, "type t = A; type t = B; type t = C;"+plain)
	checkWrong(t, -1, 2, "type t = A; type u = B; type t = C;"+plain, "type t = A; type u = B; type v = C | A;"+plain)
	checkWrong(t, -1, 7, "type a = A; type b = B; type c = C; type d = D; type e = E; type f = F; type g = G; type h = H | I | J | K | L | M | N | A;"+plain)
}

// P5.1: the names in the head of a node.
func TestHeads(t *testing.T) {
	const body = " where y = a; end "
	checkRight(t, "node f [g, h] (a, b) = (y) where y = g(h(a)); end", "node f (f) = (y) where y = f; end", "node f (a) = (f) where f = a; end",
		"node f (a) = (y)"+body+"node g [h] (f, a) = (y)"+body+"node h (a) = (y)"+body, "node f (a) = (y)"+body+"node g [h] (a) = (h) where h = a; end",
		"node f [g, h, i, j, k, l] (a) = (y)"+body, "node f [g] (a) = (y)"+body+"node h [g] (a) = (y)"+body)
	checkWrong(t, 0, -1, "node f (a, a) = (y)"+body, "node f (b, a, b) = (y)"+body, "node f [g, g] (a) = (y)"+body, "node f [g, h, g] (a) = (y)"+body,
		"node f [g, a] (a) = (y)"+body, "node f [g] (a, g) = (y)"+body, "node f (a) = (y, y)"+body, "node f (a) = (y, z, y) where y = a; z = a; end",
		"node f [f] (a) = (y)"+body, "node f [g, f] (a) = (y)"+body)
	checkWrong(t, 1, -1, "node f (a) = (y)"+body+"node f (a) = (y)"+body, "node f (a) = (y)"+body+"node g [f] (a) = (y)"+body,
		"node f (a) = (y)"+body+"node g [h, f] (a) = (y)"+body, "node f (a) = (y)"+body+"node g [g] (a) = (y)"+body)
	checkWrong(t, 2, -1, "node f (a) = (y)"+body+"node g (a) = (y)"+body+"node f [h] (b, a) = (y, z) where (y, z) = h(a); end",
		"node f (a) = (y)"+body+"node g (a) = (y)"+body+"node h [f] (a) = (y)"+body)
}

// P5.1: no name is an In and a name that an item defines, or defined twice.
func TestDefinitions(t *testing.T) {
	checkRightItems(t, "y = x;", "(y) = x;", "(y, z) = two(x, x);", "(y, z) = two(x, x) every x;", "(y, z, f) = g(x);", "(y, z) = h(x) every x;",
		"g = x; y = g;", "f = x; y = f;", "inc = x; y = inc(inc);", "colour = x; y = colour;", "z = y; y = x; a = z;")
	checkItems(t, 0, "x = 1; y = x;", "c = 1; y = x;", "(x, y) = two(x, x);", "(y, c) = two(x, x);", "(y, y) = two(x, x);", "(a, b, a, y) = g(x);")
	checkItems(t, 1, "y = x; y = x;", "y = x; c = x;", "y = x; (a, y) = two(x, x);", "(a, y) = two(x, x); a = x;", "(a, y) = two(x, x); (b, b) = two(x, x);")
	checkItems(t, 2, "a = x; y = x; a = x;", "a = x; y = x; x = x; y = x;")
}

// P5.1: only a call, or an every, has several results.
func TestSeveralNames(t *testing.T) {
	for _, e := range []string{"x", "1", "true", "Red", "two(x, x) + 1", "- two(x, x)", "pre two(x, x)", "two(x, x) when Red(c)", "x fby two(x, x)",
		"two(x, x) -> two(x, x)", "if x then two(x, x) else two(x, x)", "merge c (False -> two(x, x) | True -> two(x, x))", "match c (False -> two(x, x) | True -> two(x, x))"} {
		checkItems(t, 1, "z = 1; (y, a) = "+e+";", "z = 1; (y, a) = "+e+"; b = x fby undefined;", "z = undefined; (y, a) = "+e+";")
	}
}

// P5.1: an automaton defines the names of its first state, as an equation defines its names.
func TestDefinitionsOfAutomata(t *testing.T) {
	checkRightItems(t, "automaton state A: y = x; end;", "automaton state A: y = x; z = y; state B: z = x; y = z; end;", "y = x; automaton state A: state B: end;",
		"automaton state A: y = x; until y then A; until x then B; state B: y = 1; until true then A; end; z = y;",
		"automaton state A: y = g(x) every c; state B: y = inc(x); end;")
	checkItems(t, 0, "automaton state A: y = x; x = y; end;", "automaton state A: y = x; y = x; end;", "automaton state A: y = x; z = x; y = x; state B: y = x; z = x; end;")
	checkItems(t, 1, "y = x; automaton state A: y = x; end;", "automaton state A: y = x; end; y = x;", "automaton state A: y = x; end; (a, y) = two(x, x);",
		"automaton state A: y = x; end; automaton state B: z = x; y = z; end;")
}

// P5.1: the states of an automaton have names of their own.
func TestNamesOfStates(t *testing.T) {
	checkRightItems(t, "automaton state A: y = x; state B: y = x; state C: y = x; end; automaton state D: z = y; end;")
	checkItems(t, 0, "automaton state A: y = x; state A: y = x; end;", "automaton state A: y = x; state B: y = x; state A: y = x; end;",
		"automaton state Red: y = x; end;", "automaton state A: y = x; state One: y = x; end;", "automaton state False: y = x; end;", "automaton state A: y = x; state True: y = x; end;")
	checkItems(t, 1, "automaton state A: y = x; end; automaton state A: z = x; end;", "automaton state A: y = x; state B: y = x; end; automaton state C: z = x; state B: z = x; end;")
	checkItems(t, 2, "automaton state A: y = x; end; automaton state B: z = x; end; automaton state A: a = x; end;")
	node := func(name, state string) string {
		return "node " + name + " (x) = (y) where a = x; automaton state " + state + ": y = x; end; end "
	}
	checkRight(t, node("f", "A")+node("g", "B")+node("h", "C"))
	checkWrong(t, 1, 1, node("f", "A")+node("g", "A"))
	checkWrong(t, 2, 1, node("f", "A")+node("g", "B")+node("h", "A"), node("f", "A")+node("g", "B")+node("h", "B"))
	checkWrong(t, 0, 1, "type t = A; "+node("f", "A"))
}

// P5.1: each state defines the names of the first one, once each, by equations with one name each.
func TestNamesInStates(t *testing.T) {
	checkItems(t, 0,
		"automaton state A: y = x; state B: end;", "automaton state A: state B: y = x; end;", "automaton state A: y = x; state B: z = x; end;",
		"automaton state A: y = x; z = x; state B: y = x; end;", "automaton state A: y = x; state B: y = x; z = x; end;",
		"automaton state A: y = x; state B: y = x; y = x; end;", "automaton state A: y = x; z = x; state B: y = x; y = x; end;",
		"automaton state A: y = x; z = x; state B: z = x; y = x; z = x; end;", "automaton state A: y = x; state B: y = x; state C: z = x; end;",
		"automaton state A: y = x; state B: y = x; state C: end;", "automaton state A: y = x; state B: x = x; end;",
		"automaton state A: (y, z) = two(x, x); end;", "automaton state A: (y, z) = two(x, x); state B: (y, z) = two(x, x); end;",
		"automaton state A: (y, z) = g(x); end;", "automaton state A: (y, z) = g(x) every x; state B: (z, y) = h(x) every x; end;",
		"automaton state A: y = x; z = x; state B: (y, z) = g(x); end;", "automaton state A: (y, z) = g(x); state B: y = x; z = x; end;",
		"automaton state A: y = x; z = x; state B: (y, z) = two(x, x); end;", "automaton state A: y = x; state B: (y, z) = two(x, x); end;")
	checkItems(t, 1, "a = x; automaton state A: y = x; state B: a = x; end;")
}

// P5.1: a transition goes to a state of its own automaton.
func TestTransitions(t *testing.T) {
	checkRightItems(t, "automaton state A: y = x; until x then A; until x then A; state B: y = x; until x then A; end;",
		"automaton state A: y = x; until x then C; state B: y = x; until x then B; until x then C; state C: y = x; until x then A; end;")
	checkItems(t, 0, "automaton state A: y = x; until x then B; end;", "automaton state A: y = x; until x then A; until x then B; end;",
		"automaton state A: y = x; state B: y = x; until x then A; until x then C; end;", "automaton state A: y = x; until x then Red; end;",
		"automaton state A: y = x; until x then True; end;", "automaton state A: y = x; until x then B; end; automaton state B: z = x; end;")
	checkItems(t, 1, "automaton state A: y = x; end; automaton state B: z = x; until x then A; end;")
}

// P5.1: each Out is defined by an item.
func TestOuts(t *testing.T) {
	checkItems(t, -1, "", "z = x;", "z = y;", "automaton state A: state B: end;", "automaton state A: z = x; until x then A; end;")
	checkWrong(t, 0, -1, "node f (x) = (x) where end", "node f (x) = (y, x) where y = x; end", "node f (x) = (y, z) where z = x; end",
		"node f (x) = (y, z) where y = x; end", "node f [g] (x) = (g) where end")
	checkRight(t, "node f (x) = (y, z) where z = x; y = x; end", "node f [g] (x) = (y, z) where (a, z, y) = g(x); end",
		"node f (x) = (y, z) where automaton state A: a = x; z = x; y = x; end; end")
}

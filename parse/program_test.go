package parse_test

import (
	"strings"
	"testing"

	"pendule/api"
	"pendule/parse"
)

// full is a text with every part that a program may have, and fullProgram its program, written by the grammar.
const full = `
-- enums and nodes may be mixed
node inc (x) = (y) where y = x + 1; end
type colour = Red | Green | Blue;
node f [g, h] (a, b) = (c, d) where
  (c, d) = k[g, inc](1, true) every a;
  automaton
    state Up: s = 0 fby s; (t) = Red; until not a then Down; until false then Up;
    state Down:
    state Off: until s then Up;
  end;
  u = match a (False -> pre b | True -> b <= 2);
end
type one = One;
node none (x) = (y) where end`

func fullProgram() api.Program {
	f := api.Node{Name: "f", Funs: []string{"g", "h"}, Ins: []string{"a", "b"}, Outs: []string{"c", "d"}}
	up := api.State{Name: "Up",
		Eqs:  []api.Eq{{Names: []string{"s"}, E: of(api.Fby, num(0), v("s"))}, {Names: []string{"t"}, E: con("Red")}},
		Ways: []api.Way{{If: un("not", v("a")), To: "Down"}, {If: boolean(0), To: "Up"}}}
	f.Items = []api.Item{
		equation(of(api.Every, call("k", "g inc", num(1), boolean(1)), v("a")), "c", "d"),
		{States: []api.State{up, {Name: "Down"}, {Name: "Off", Ways: []api.Way{{If: v("s"), To: "Up"}}}}},
		equation(arms(api.Match, "a", "False True", of(api.Pre, v("b")), bin(v("b"), "<=", num(2))), "u"),
	}
	inc := api.Node{Name: "inc", Ins: []string{"x"}, Outs: []string{"y"}, Items: []api.Item{equation(bin(v("x"), "+", num(1)), "y")}}
	none := api.Node{Name: "none", Ins: []string{"x"}, Outs: []string{"y"}}
	return api.Program{
		Enums: []api.Enum{{Name: "colour", Cons: []string{"Red", "Green", "Blue"}}, {Name: "one", Cons: []string{"One"}}},
		Nodes: []api.Node{inc, f, none},
	}
}

// P3.1: a program of all parts.
func TestFullProgram(t *testing.T) {
	checkProgram(t, full, fullProgram())
}

// P3.1: equations with one name and with several.
func TestEquations(t *testing.T) {
	x := v("x")
	checkItems(t, "")
	checkItems(t, "y = x;", equation(x, "y"))
	checkItems(t, "(y) = x;", equation(x, "y"))
	checkItems(t, "(y, z, y) = x;", equation(x, "y", "z", "y"))
	checkItems(t, "y = x; y = x; (y, z) = x;", equation(x, "y"), equation(x, "y"), equation(x, "y", "z"))
	checkItems(t, "y = x = 1;", equation(bin(x, "=", num(1)), "y"))
	checkItems(t, "y = (x);", equation(x, "y"))
}

// P3.1: automata, with states that have equations, transitions, both or nothing.
func TestAutomata(t *testing.T) {
	x := v("x")
	eq := api.Eq{Names: []string{"y"}, E: x}
	way := api.Way{If: x, To: "B"}
	checkItems(t, "automaton state A: end;", api.Item{States: []api.State{{Name: "A"}}})
	checkItems(t, "automaton state A: state A: end;", api.Item{States: []api.State{{Name: "A"}, {Name: "A"}}})
	checkItems(t, "automaton state A: y = x; end;", api.Item{States: []api.State{{Name: "A", Eqs: []api.Eq{eq}}}})
	checkItems(t, "automaton state A: until x then B; end;", api.Item{States: []api.State{{Name: "A", Ways: []api.Way{way}}}})
	checkItems(t, "y = x; automaton state A: (y) = x; y = x; until x then B; until x then B; state B: y = x; end; y = x;",
		equation(x, "y"),
		api.Item{States: []api.State{{Name: "A", Eqs: []api.Eq{eq, eq}, Ways: []api.Way{way, way}}, {Name: "B", Eqs: []api.Eq{eq}}}},
		equation(x, "y"))
}

// P3.1: the fault in a program is at the first token that cannot stand where it stands, the end token too.
func TestProgramFaults(t *testing.T) {
	for text, col := range map[string]int{
		"x": 1, ";": 1, "end": 1, "where": 1, "automaton": 1, "A": 1, "1": 1, "(": 1, "true": 1,
		"type": 5, "type T": 6, "type t": 7, "type t A": 8, "type t =": 9, "type t = ;": 10, "type t = a;": 10, "type t = A": 11, "type t = A |": 13,
		"type t = A | ;": 14, "type t = A, B;": 11, "type t = A B;": 12, "type t = | A;": 10, "type fby = A;": 6, "type t = A; ;": 13, "type t = true;": 10,
		"node": 5, "node F": 6, "node f": 7, "node f x": 8, "node f [": 9, "node f []": 9, "node f [g": 10, "node f [g,": 11, "node f [g,](x)": 11, "node f [G]": 9,
		"node f [g] [h]": 12, "node f (": 9, "node f ()": 9, "node f (x": 10, "node f (x y)": 11, "node f (x,)": 11, "node f (X)": 9, "node f (x;": 10, "node f (1)": 9,
		"node f (x)": 11, "node f (x) (y)": 12, "node f (x) =": 13, "node f (x) = y": 14, "node f (x) = (": 15, "node f (x) = ()": 15, "node f (x) = (y": 16,
		"node f (x) = (y)": 17, "node f (x) = (y) end": 18, "node f (x) = (y) where": 23, "node f (x) = (y);": 17, "node f (x) = [y]": 14, "node f (x)(y)": 11,
		"node f (x) = (y) where end end": 28, "node f (x) = (y) where end ;": 28, "node f (x) = (y) where end x": 28,
		"node f (x) = (y) where node g": 24, "node f (x) = (y) where type t = A;": 24,
	} {
		checkFault(t, text, syntax(1, col))
	}
	checkFault(t, full+"\n;", syntax(strings.Count(full, "\n")+2, 1))
	checkFault(t, "type t =\n\t-- A\n ;", syntax(3, 2))
}

// P3.1: as above, for the items of a node.
func TestItemFaults(t *testing.T) {
	for items, at := range map[string]int{
		";": 0, "Y = x;": 0, "1 = x;": 0, "x": 2, "x;": 1, "y x;": 2, "y, z = x;": 1, "y =": 4, "y = ;": 4, "y = x": 6, "y = x; ;": 7, "y = x y = x;": 6, "y = x)": 5,
		"()": 1, "() = x;": 1, "(y = x;": 3, "(y, = x;": 4, "(y z) = x;": 3, "(y,) = x;": 3, "(Y) = x;": 1, "((y)) = x;": 1, "(y) x;": 4, "[y] = x;": 0, "(y);": 3,
		"y(x) = x;": 1, "y = x < 1 < 2;": 10, "y = x = 1 = 2;": 10, "y = x every x;": 6, "pre y = x;": 0, "fby = x;": 0, "until x then A;": 0, "state A:": 0,
		"automaton": 10, "automaton end;": 10, "automaton y = x; end;": 10, "automaton until x then A; end;": 10, "automaton state": 16, "automaton state a:": 16,
		"automaton state A": 18, "automaton state A;": 17, "automaton state A y = x; end;": 18, "automaton state A:": 22, "automaton state A: end": 23,
		"automaton state A: end y": 23, "automaton state A: ; end;": 19, "automaton state A: automaton": 19, "automaton state A: y = x end;": 25,
		"automaton state A: until": 25, "automaton state A: until then": 25, "automaton state A: until x": 27, "automaton state A: until x; end;": 26,
		"automaton state A: until x then": 32, "automaton state A: until x then b;": 32, "automaton state A: until x then B": 34, "automaton state A: until x then B end;": 34,
		"automaton state A: until x then B; y = x;": 35, "automaton state A: until x then B; (y) = x;": 35, "automaton state A: until x < x < x then B;": 31,
		"automaton state A: until x then B; ;": 35, "automaton state A: node": 19,
	} {
		text := inNode(items)
		checkFault(t, text, syntax(1, itemCol+at))
		checkFault(t, text+" @", api.Fault{Err: api.ErrLex, A: 1, B: len(text) + 2})
	}
}

// P3.1: a program that the grammar allows and layer 2 does not has that fault, without a place.
func TestTreeFaults(t *testing.T) {
	node := "node f (x) = (y) where end "
	for _, text := range []string{
		"", " -- nothing\n", "type t = A;",
		strings.Repeat("type t = A; ", 9) + node,
		"type t = " + words(9, "A", "|") + "; " + node,
		strings.Repeat(node, 17),
		"node f (" + words(7, "x", ",") + ") = (y) where end",
		"node f (x) = (" + words(7, "y", ",") + ") where end",
		"node f [" + words(7, "g", ",") + "] (x) = (y) where end",
		inNode(strings.Repeat("y = x; ", 25)),
		inNode("(" + words(7, "y", ",") + ") = x;"),
		inNode("automaton " + strings.Repeat("state A: ", 9) + "end;"),
		inNode("automaton state A: " + strings.Repeat("y = x; ", 25) + "end;"),
		inNode("automaton state A: " + strings.Repeat("until x then A; ", 5) + "end;"),
		inNode("y = f(" + words(7, "x", ",") + ");"),
		inNode("y = f[" + words(7, "g", ",") + "](x);"),
		inNode("y = merge c (" + words(9, "A -> x", "|") + ");"),
		inNode("automaton state A: until match c (" + words(9, "A -> x", "|") + ") then A; end;"),
	} {
		checkFault(t, text, api.Fault{Err: api.ErrField})
	}
	checkFault(t, inNode("y = "+strings.Repeat("not ", 40)+"x;"), api.Fault{Err: api.ErrBound})
	checkFault(t, inNode("y = "+words(151, "x", "+")+";"), api.Fault{Err: api.ErrBound})
	checkFault(t, inNode(strings.Repeat("y = "+words(16, "x", " fby ")+"; ", 10)), api.Fault{Err: api.ErrBound})
}

// P3.1: the greatest program that layer 2 allows has no fault.
func TestGreatestPrograms(t *testing.T) {
	node := "node f (x) = (y) where end "
	for _, text := range []string{
		strings.Repeat("type t = "+words(8, "A", "|")+"; ", 8) + strings.Repeat(node, 16),
		"node f [" + words(6, "g", ",") + "] (" + words(6, "x", ",") + ") = (" + words(6, "y", ",") + ") where end",
		inNode(strings.Repeat("("+words(6, "y", ",")+") = x; ", 24)),
		inNode("automaton " + strings.Repeat("state A: "+strings.Repeat("y = x; ", 24)+strings.Repeat("until x then A; ", 4), 8) + "end;"),
		inNode("y = f[" + words(6, "g", ",") + "](" + words(6, "x", ",") + ");"),
		inNode("y = merge c (" + words(8, "A -> x", "|") + ");"),
		inNode("y = " + strings.Repeat("not ", 39) + "x;"),
		inNode(strings.Repeat("y = "+words(15, "x", " fby ")+"; ", 10) + strings.Repeat("y = -x; ", 5)),
	} {
		if _, f := parse.Parse(text); f != (api.Fault{}) {
			t.Errorf("Parse(%.60q): fault %v", text, f)
		}
	}
}

// P3.1: a fault of the grammar comes ahead of one of the tree, wherever it is.
func TestGrammarComesAheadOfTree(t *testing.T) {
	wrong := "type t = " + words(9, "A", "|") + ";"
	checkFault(t, wrong, api.Fault{Err: api.ErrField})
	checkFault(t, wrong+" )", syntax(1, len(wrong)+2))
	deep := inNode("y = " + strings.Repeat("not ", 50) + "x;")
	checkFault(t, deep, api.Fault{Err: api.ErrBound})
	checkFault(t, deep+"\nnode", syntax(2, 5))
}

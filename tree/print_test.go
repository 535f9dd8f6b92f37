package tree_test

import (
	"testing"

	"pendule/api"
	"pendule/tree"
)

func checkShow(t *testing.T, e api.Expr, want string) {
	t.Helper()
	if got := tree.Show(e); got != want {
		t.Errorf("Show(%v) = %q, want %q", e, got, want)
	}
}

// P2.1: the example of the chapter, and every row of the table of texts.
func TestShow(t *testing.T) {
	x, y, z := v("x"), v("y"), v("z")
	checkShow(t, bin("+", of(api.Fby, x, num(1)), num(2)), "( ( x fby 1 ) + 2 )")
	checkShow(t, num(0), "0")
	checkShow(t, num(1<<63-1), "9223372036854775807")
	checkShow(t, boolean(0), "false")
	checkShow(t, boolean(1), "true")
	checkShow(t, con("Red"), "Red")
	checkShow(t, con("_Red"), "_Red")
	checkShow(t, x, "x")
	checkShow(t, v("_v0"), "_v0")
	checkShow(t, un("not", x), "( not x )")
	checkShow(t, un("-", un("-", num(3))), "( - ( - 3 ) )")
	checkShow(t, of(api.If, x, y, z), "( if x then y else z )")
	checkShow(t, of(api.Fby, x, y), "( x fby y )")
	checkShow(t, of(api.Arrow, x, of(api.Arrow, y, z)), "( x -> ( y -> z ) )")
	checkShow(t, of(api.Pre, of(api.Pre, x)), "( pre ( pre x ) )")
	checkShow(t, when("Red", "c", x), "( x when Red ( c ) )")
	checkShow(t, when("A", "c", when("B", "d", x)), "( ( x when B ( d ) ) when A ( c ) )")
	checkShow(t, arms(api.Merge, "c", "A", x), "merge c ( A -> x )")
	checkShow(t, arms(api.Merge, "c", "False True", num(0), when("True", "c", x)), "merge c ( False -> 0 | True -> ( x when True ( c ) ) )")
	checkShow(t, arms(api.Match, "c", "A B C", x, y, z), "match c ( A -> x | B -> y | C -> z )")
	checkShow(t, call("f", "", x), "f ( x )")
	checkShow(t, call("f", "", x, y, z), "f ( x , y , z )")
	checkShow(t, call("f", "g", x), "f [ g ] ( x )")
	checkShow(t, call("f", "g h", x, call("k", "", y)), "f [ g , h ] ( x , k ( y ) )")
	checkShow(t, of(api.Every, call("f", "g", x, y), z), "( f [ g ] ( x , y ) every z )")
	for _, s := range []string{"+", "-", "*", "/", "%", "<", "<=", "=", "<>", "and", "or"} {
		checkShow(t, bin(s, x, y), "( x "+s+" y )")
	}
}

// P2.1: an expression with another Op is ?, whatever its fields are; a Bool is true if N is 1; an Int may be below 0.
func TestShowOtherValues(t *testing.T) {
	for _, op := range []int{0, -1, api.Mem, 17, 1 << 40, -1 << 63} {
		e := api.Expr{Op: op, Name: "x", N: 3, Cons: []string{"A"}, Kids: []api.Expr{v("y"), v("z")}}
		checkShow(t, e, "?")
		checkShow(t, bin("+", of(op), num(1)), "( ? + 1 )")
	}
	checkShow(t, api.Expr{}, "?")
	for _, n := range []int64{2, -1, 0, 257, 1<<32 + 1, -1 << 63} {
		checkShow(t, boolean(n), "false")
	}
	checkShow(t, num(-1), "-1")
	checkShow(t, num(-120), "-120")
	checkShow(t, num(-1<<63), "-9223372036854775808")
	checkShow(t, un("-", num(-5)), "( - -5 )")
}

// P2.1: a missing kid is ?.
func TestShowMissingKids(t *testing.T) {
	x := v("x")
	checkShow(t, un("not"), "( not ? )")
	checkShow(t, bin("+"), "( ? + ? )")
	checkShow(t, bin("+", x), "( x + ? )")
	checkShow(t, of(api.If), "( if ? then ? else ? )")
	checkShow(t, of(api.If, x), "( if x then ? else ? )")
	checkShow(t, of(api.If, x, x), "( if x then x else ? )")
	checkShow(t, of(api.Fby), "( ? fby ? )")
	checkShow(t, of(api.Fby, x), "( x fby ? )")
	checkShow(t, of(api.Arrow), "( ? -> ? )")
	checkShow(t, of(api.Arrow, x), "( x -> ? )")
	checkShow(t, of(api.Pre), "( pre ? )")
	checkShow(t, when("A", "c"), "( ? when A ( c ) )")
	checkShow(t, of(api.Every), "( ? every ? )")
	checkShow(t, of(api.Every, call("f", "", x)), "( f ( x ) every ? )")
}

// P2.1: what there is more of than the row has is not shown, except for the kids of a Call, the Cons of a When and the pairs of a Merge or a Match.
func TestShowMoreThanARow(t *testing.T) {
	x, y, z := v("x"), v("y"), v("z")
	l := []api.Expr{x, y, z, num(4), num(5), num(6), num(7), num(8), num(9)}
	checkShow(t, api.Expr{Op: api.Int, N: 3, Name: "x", Cons: []string{"A"}, Kids: l}, "3")
	checkShow(t, api.Expr{Op: api.Bool, N: 1, Name: "x", Cons: []string{"A"}, Kids: l}, "true")
	checkShow(t, api.Expr{Op: api.Con, N: 3, Name: "B", Cons: []string{"A"}, Kids: l}, "B")
	checkShow(t, api.Expr{Op: api.Var, N: 3, Name: "x", Cons: []string{"A"}, Kids: l}, "x")
	checkShow(t, api.Expr{Op: api.Pre, N: 3, Name: "x", Cons: []string{"A"}, Kids: l}, "( pre x )")
	checkShow(t, un("-", l...), "( - x )")
	checkShow(t, bin("<=", l...), "( x <= y )")
	checkShow(t, of(api.If, l...), "( if x then y else z )")
	checkShow(t, of(api.Fby, l...), "( x fby y )")
	checkShow(t, of(api.Arrow, l...), "( x -> y )")
	checkShow(t, when("A", "c", l...), "( x when A ( c ) )")
	checkShow(t, of(api.Every, l...), "( x every y )")
	checkShow(t, call("f", "", l...), "f ( x , y , z , 4 , 5 , 6 , 7 , 8 , 9 )")
	checkShow(t, call("f", "a b c d e f g h", x), "f [ a , b , c , d , e , f , g , h ] ( x )")
	checkShow(t, call("f", ""), "f ( )")
	checkShow(t, call("f", "g"), "f [ g ] ( )")
	checkShow(t, when("A B", "c", x), "( x when A , B ( c ) )")
	checkShow(t, when("A B C", "c"), "( ? when A , B , C ( c ) )")
	checkShow(t, when("", "c", x), "( x when ( c ) )")
	for op, word := range map[int]string{api.Merge: "merge", api.Match: "match"} {
		checkShow(t, arms(op, "c", ""), word+" c ( )")
		checkShow(t, arms(op, "c", "", x, y), word+" c ( )")
		checkShow(t, arms(op, "c", "A B"), word+" c ( )")
		checkShow(t, arms(op, "c", "A B", x), word+" c ( A -> x )")
		checkShow(t, arms(op, "c", "A B", x, y, z), word+" c ( A -> x | B -> y )")
		checkShow(t, arms(op, "c", "A B C D E F G H I", l...),
			word+" c ( A -> x | B -> y | C -> z | D -> 4 | E -> 5 | F -> 6 | G -> 7 | H -> 8 | I -> 9 )")
	}
}

// P2.1: a Name is shown as it is, even where it is none, with one space before and after it.
func TestShowNamesAsTheyAre(t *testing.T) {
	x := v("x")
	checkShow(t, v(""), "")
	checkShow(t, con(""), "")
	checkShow(t, v("A b\n"), "A b\n")
	checkShow(t, con("é"), "é")
	checkShow(t, un("", x), "(  x )")
	checkShow(t, un("pre pre", x), "( pre pre x )")
	checkShow(t, bin(">=", x, x), "( x >= x )")
	checkShow(t, bin("", v(""), v("")), "(    )")
	checkShow(t, when("x", "C", x), "( x when x ( C ) )")
	checkShow(t, api.Expr{Op: api.When, Cons: []string{"", ""}, Kids: []api.Expr{x}}, "( x when  ,  (  ) )")
	checkShow(t, arms(api.Merge, "", "x", x), "merge  ( x -> x )")
	checkShow(t, call("", "", x), " ( x )")
	checkShow(t, call("F", "G 1", x), "F [ G , 1 ] ( x )")
}

func checkPrint(t *testing.T, p api.Program, want string) {
	t.Helper()
	if got, err := tree.Print(p); got != want || err != api.OK {
		t.Errorf("printed %q, error %d, want %q", got, err, want)
	}
}

// P2.1: texts of programs.
func TestPrint(t *testing.T) {
	checkPrint(t, full(), fullText)
	checkPrint(t, program(), "node f ( x ) = ( y ) where end")
	checkPrint(t, with(bin("+", of(api.Fby, num(0), v("y")), v("x"))), "node f ( x ) = ( y ) where y = ( ( 0 fby y ) + x ) ; end")
	checkPrint(t, program(equation(v("x"), "a", "b", "c")), "node f ( x ) = ( y ) where ( a , b , c ) = x ; end")
	checkPrint(t, program(api.Item{States: []api.State{{Name: "S"}}}), "node f ( x ) = ( y ) where automaton state S : end ; end")
	checkPrint(t, program(api.Item{States: []api.State{
		{Name: "S", Ways: []api.Way{{If: v("x"), To: "T"}}}, {Name: "T", Eqs: []api.Eq{{Names: []string{"a", "b"}, E: num(1)}}}}}),
		"node f ( x ) = ( y ) where automaton state S : until x then T ; state T : ( a , b ) = 1 ; end ; end")
	p := program()
	p.Enums = []api.Enum{{Name: "t", Cons: []string{"A", "B", "C"}}}
	p.Nodes = append(p.Nodes, api.Node{Name: "g", Funs: []string{"h"}, Ins: []string{"a", "b"}, Outs: []string{"c"}})
	checkPrint(t, p, "type t = A | B | C ; node f ( x ) = ( y ) where end node g [ h ] ( a , b ) = ( c ) where end")
}

// P2.1: what is not well-formed, too large or generated has no text, but the error of Right.
func TestPrintErrors(t *testing.T) {
	for what, p := range map[string]api.Program{
		"empty":          {},
		"bad expression": with(num(-1)),
		"generated":      with(v("_x")),
		"generated enum": {Enums: []api.Enum{{Name: "_t0", Cons: []string{"A"}}}, Nodes: program().Nodes},
		"too deep":       with(deep(41)),
		"too large":      with(large(301)),
		"both":           program(equation(deep(41), "y"), equation(num(-1), "z")),
	} {
		got, err := tree.Print(p)
		if want := tree.Right(p, false); err != want || want == api.OK || got != "" {
			t.Errorf("%s: printed %q, error %d, want error %d", what, got, err, want)
		}
	}
}

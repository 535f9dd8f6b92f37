package parse_test

import (
	"strings"
	"testing"

	"pendule/api"
	"pendule/parse"
	"pendule/tree"
)

// P3.1: the examples of the chapter.
func TestExamples(t *testing.T) {
	checkShown(t, "a -> b fby c + 1", "( a -> ( b fby ( c + 1 ) ) )")
	checkExprFault(t, "a < b < c", syntax(1, 7))
}

// P3.1: the tree of each form of an atom.
func TestAtoms(t *testing.T) {
	x, y := v("x"), v("y")
	checkExpr(t, "0", num(0))
	checkExpr(t, "9223372036854775807", num(1<<63-1))
	checkExpr(t, "true", boolean(1))
	checkExpr(t, "false", boolean(0))
	checkExpr(t, "Red", con("Red"))
	checkExpr(t, "True", con("True"))
	checkExpr(t, "x", x)
	checkExpr(t, "(x)", x)
	checkExpr(t, "(((x)))", x)
	checkExpr(t, "f(x)", call("f", "", x))
	checkExpr(t, "f (x, y)", call("f", "", x, y))
	checkExpr(t, "f[g](x)", call("f", "g", x))
	checkExpr(t, "f[g, h, f](x, y, 1)", call("f", "g h f", x, y, num(1)))
	checkExpr(t, "f(g(x), h[f](y))", call("f", "", call("g", "", x), call("h", "f", y)))
	checkExpr(t, "f((x))", call("f", "", x))
	checkExpr(t, "merge c (A -> x)", arms(api.Merge, "c", "A", x))
	checkExpr(t, "merge c (A -> x | B -> y | A -> 1)", arms(api.Merge, "c", "A B A", x, y, num(1)))
	checkExpr(t, "match c (A -> x)", arms(api.Match, "c", "A", x))
	checkExpr(t, "match c (False -> x | True -> y)", arms(api.Match, "c", "False True", x, y))
}

// P3.1: the tree of each operator with one operand, of a choice, of every and of when.
func TestUnaries(t *testing.T) {
	x, y, c := v("x"), v("y"), v("c")
	checkExpr(t, "not x", un("not", x))
	checkExpr(t, "- x", un("-", x))
	checkExpr(t, "-5", un("-", num(5)))
	checkExpr(t, "- -5", un("-", un("-", num(5))))
	checkExpr(t, "pre x", of(api.Pre, x))
	checkExpr(t, "pre not - pre x", of(api.Pre, un("not", un("-", of(api.Pre, x)))))
	checkExpr(t, "if c then x else y", of(api.If, c, x, y))
	checkExpr(t, "f(x) every c", of(api.Every, call("f", "", x), c))
	checkExpr(t, "f[g](x, y) every not c", of(api.Every, call("f", "g", x, y), un("not", c)))
	checkExpr(t, "x when A(c)", when(x, "A", "c"))
	checkExpr(t, "x when A(c) when B(y)", when(when(x, "A", "c"), "B", "y"))
	checkExpr(t, "3 when A(c)", when(num(3), "A", "c"))
	checkExpr(t, "f(x) when A(c)", when(call("f", "", x), "A", "c"))
	checkExpr(t, "merge c (A -> x) when B(y)", when(arms(api.Merge, "c", "A", x), "B", "y"))
}

// P3.1: the tree of each operator with two operands.
func TestOperators(t *testing.T) {
	x, y := v("x"), v("y")
	for _, s := range []string{"+", "-", "*", "/", "%", "<", "<=", "=", "<>", "and", "or"} {
		checkExpr(t, "x "+s+" y", bin(x, s, y))
	}
	checkExpr(t, "x fby y", of(api.Fby, x, y))
	checkExpr(t, "x -> y", of(api.Arrow, x, y))
}

// strengths are the operators with two operands, from the weakest to the strongest, with how those of a row group.
var strengths = []struct{ operators, group string }{
	{"->", "right"}, {"fby", "right"}, {"or", "left"}, {"and", "left"},
	{"< <= = <>", "none"}, {"+ -", "left"}, {"* / %", "left"},
}

// P3.1: a stronger operator has its operands ahead of a weaker one, on both sides.
func TestStrengths(t *testing.T) {
	for i, weak := range strengths {
		for _, strong := range strengths[i+1:] {
			for _, p := range strings.Fields(weak.operators) {
				for _, q := range strings.Fields(strong.operators) {
					checkShown(t, "a "+p+" b "+q+" c", "( a "+p+" ( b "+q+" c ) )")
					checkShown(t, "a "+q+" b "+p+" c", "( ( a "+q+" b ) "+p+" c )")
					checkShown(t, "a "+q+" b "+p+" c "+q+" d", "( ( a "+q+" b ) "+p+" ( c "+q+" d ) )")
				}
			}
		}
	}
}

// P3.1: operators of one strength group to the left or to the right, and comparisons not at all.
func TestGroups(t *testing.T) {
	for _, row := range strengths {
		for _, p := range strings.Fields(row.operators) {
			for _, q := range strings.Fields(row.operators) {
				text := "a " + p + " b " + q + " c " + p + " d"
				switch row.group {
				case "left":
					checkShown(t, text, "( ( ( a "+p+" b ) "+q+" c ) "+p+" d )")
				case "right":
					checkShown(t, text, "( a "+p+" ( b "+q+" ( c "+p+" d ) ) )")
				case "none":
					checkExprFault(t, text, syntax(1, 6+len(p)))
					checkShown(t, "(a "+p+" b) "+q+" (c "+p+" d)", "( ( a "+p+" b ) "+q+" ( c "+p+" d ) )")
				}
			}
		}
	}
	checkShown(t, "a < b and c < d or e < f fby g < h -> i < j",
		"( ( ( ( ( a < b ) and ( c < d ) ) or ( e < f ) ) fby ( g < h ) ) -> ( i < j ) )")
}

// P3.1: operators with one operand are stronger than all others, but for every and when.
func TestUnaryStrengths(t *testing.T) {
	for _, row := range strengths {
		for _, p := range strings.Fields(row.operators) {
			for _, u := range []string{"not", "-", "pre"} {
				checkShown(t, u+" a "+p+" "+u+" b", "( ( "+u+" a ) "+p+" ( "+u+" b ) )")
			}
			checkShown(t, "f(a) every b "+p+" c", "( ( f ( a ) every b ) "+p+" c )")
			checkShown(t, "a "+p+" b when A(c)", "( a "+p+" ( b when A ( c ) ) )")
			checkShown(t, "a when A(c) "+p+" b", "( ( a when A ( c ) ) "+p+" b )")
		}
	}
	checkShown(t, "not x when A(c)", "( not ( x when A ( c ) ) )")
	checkShown(t, "(not x) when A(c)", "( ( not x ) when A ( c ) )")
	checkShown(t, "- f(x) every c", "( - ( f ( x ) every c ) )")
	checkShown(t, "pre f(x) every pre c", "( pre ( f ( x ) every ( pre c ) ) )")
}

// P3.1: an optional part is parsed by the innermost one that can take it.
func TestGreed(t *testing.T) {
	checkShown(t, "if a then b else c + d -> e", "( if a then b else ( ( c + d ) -> e ) )")
	checkShown(t, "if a -> b then c fby d else e", "( if ( a -> b ) then ( c fby d ) else e )")
	checkShown(t, "if a then if b then c else d else e", "( if a then ( if b then c else d ) else e )")
	checkShown(t, "x + if a then b else c * d + e", "( x + ( if a then b else ( ( c * d ) + e ) ) )")
	checkShown(t, "not if a then b else c or d", "( not ( if a then b else ( c or d ) ) )")
	checkShown(t, "if a then b else c when A(d)", "( if a then b else ( c when A ( d ) ) )")
	checkShown(t, "f(x) every c when A(d)", "( f ( x ) every ( c when A ( d ) ) )")
	checkShown(t, "(f(x) every c) when A(d)", "( ( f ( x ) every c ) when A ( d ) )")
	checkShown(t, "f(x) every g(y) every c", "( f ( x ) every ( g ( y ) every c ) )")
	checkShown(t, "f(x) every if a then b else c or d", "( f ( x ) every ( if a then b else ( c or d ) ) )")
	checkShown(t, "merge c (A -> x -> y | B -> x fby y)", "merge c ( A -> ( x -> y ) | B -> ( x fby y ) )")
	checkShown(t, "merge c (A -> merge d (A -> x | B -> y) | B -> z)", "merge c ( A -> merge d ( A -> x | B -> y ) | B -> z )")
}

// P3.1: a comparison that the end of a choice cannot take is left over for those around the choice.
func TestComparisonsBehindChoices(t *testing.T) {
	checkShown(t, "if a then b else c < d < e", "( ( if a then b else ( c < d ) ) < e )")
	checkShown(t, "- if a then b else c < d = e", "( ( - ( if a then b else ( c < d ) ) ) = e )")
	checkShown(t, "if a then b else c < if d then e else f < g < h", "( ( if a then b else ( c < ( if d then e else ( f < g ) ) ) ) < h )")
	checkShown(t, "if a then b else c < d < e and f", "( ( ( if a then b else ( c < d ) ) < e ) and f )")
	checkExprFault(t, "if a then b else c < d < e < f", syntax(1, 28))
	checkExprFault(t, "x < if a then b else c < d < e", syntax(1, 28))
}

// P3.1: every follows a call alone, with or without parentheses around it.
func TestEvery(t *testing.T) {
	want := of(api.Every, call("f", "", v("x")), v("c"))
	checkExpr(t, "(f(x)) every c", want)
	checkExpr(t, "(((f(x)))) every (c)", want)
	checkExpr(t, "((f(x)) every c)", want)
	checkExprFault(t, "x every c", syntax(1, 3))
	checkExprFault(t, "(x) every c", syntax(1, 5))
	checkExprFault(t, "3 every c", syntax(1, 3))
	checkExprFault(t, "A every c", syntax(1, 3))
	checkExprFault(t, "true every c", syntax(1, 6))
	checkExprFault(t, "merge c (A -> x) every c", syntax(1, 18))
	checkExprFault(t, "match c (A -> f(x)) every c", syntax(1, 21))
	checkExprFault(t, "(f(x) + 1) every c", syntax(1, 12))
	checkExprFault(t, "(-f(x)) every c", syntax(1, 9))
	checkExprFault(t, "(f(x) when A(c)) every c", syntax(1, 18))
	checkExprFault(t, "f(x) when A(c) every c", syntax(1, 16))
	checkExprFault(t, "f(x) every c every d", syntax(1, 14))
	checkExprFault(t, "(f(x) every c) every d", syntax(1, 16))
	checkExprFault(t, "(if a then b else f(x)) every c", syntax(1, 25))
	checkExprFault(t, "every c", syntax(1, 1))
}

// P3.1: the fault is at the first token that cannot stand where it stands, the end token too.
func TestExprFaults(t *testing.T) {
	for text, col := range map[string]int{
		"": 1, "  ": 3, "x +": 4, "x y": 3, "x 1": 3, "1 x": 3, "x)": 2, "x ;": 3, "x = ;": 5, "x , y": 3,
		")": 1, "* x": 1, "x + * y": 5, "x + + y": 5, "x not y": 3, "not": 4, "pre": 4, "-": 2, "x -": 4, "-> x": 1, "fby x": 1,
		"(": 2, "(x": 3, "()": 2, "(x, y)": 3, "(x y)": 4, "((x)": 5,
		"f(": 3, "f()": 3, "f(x": 4, "f(x,": 5, "f(x,)": 5, "f(x y)": 5, "f(x;": 4, "f(x)(y)": 5, "f(x)[g]": 5, "f(,x)": 3,
		"f[": 3, "f[]": 3, "f[]()": 3, "f[]x": 3, "f[g": 4, "f[g,": 5, "f[g,](x)": 5, "f[G](x)": 3, "f[1](x)": 3, "f[g]": 5, "f[g] x": 6, "f[g](": 6, "f[g]()": 6,
		"f[g h](x)": 5, "f[g][h](x)": 5, "f[fby](x)": 3, "A(x)": 2, "A[g](x)": 2, "1(x)": 2, "(f)(x)": 4, "true(x)": 5,
		"x when": 7, "x when c": 8, "x when A": 9, "x when A c": 10, "x when A(": 10, "x when A()": 10, "x when A(C)": 10, "x when A(c": 11,
		"x when A(c, d)": 11, "x when A, B(c)": 9, "x when A[c]": 9, "x when true(c)": 8, "when A(c)": 1, "x when A((c))": 10,
		"if": 3, "if a": 5, "if a else": 6, "if a then": 10, "if a then b": 12, "if a then b else": 17, "if a then b then": 13, "then": 1,
		"if then": 4, "if a then else": 11, "if a then b else )": 18, "if a b": 6, "else x": 1,
		"merge": 6, "merge C": 7, "merge (c)": 7, "merge c": 8, "merge c x": 9, "merge c (": 10, "merge c ()": 10, "merge c (x -> y)": 10, "merge c (A": 11,
		"merge c (A x)": 12, "merge c (A = x)": 12, "merge c (A ->": 14, "merge c (A -> )": 15, "merge c (A -> x": 16, "merge c (A -> x |": 18,
		"merge c (A -> x | )": 19, "merge c (A -> x , B -> y)": 17, "merge c (A -> x B -> y)": 17, "merge c [A -> x]": 9, "merge c (| A -> x)": 10,
		"match": 6, "match 1": 7, "match c (A -> x | y)": 19, "match c (A(c) -> x)": 11, "match c (true -> x)": 10,
		"type": 1, "node": 1, "end": 1, "where": 1, "automaton": 1, "state": 1, "until": 1, "x end": 3, "x until": 3,
		"x | y": 3, "x : y": 3, "x ; y": 3, "a = b = c": 7, "a <= b <> c": 8,
	} {
		checkExprFault(t, text, syntax(1, col))
	}
	checkExprFault(t, "x\n  + -- )\n\t)", syntax(3, 2))
	checkExprFault(t, "x\n  + -- )\n\t", syntax(3, 2))
}

// P3.1: a fault of layer 1 comes ahead of one of the grammar, wherever it is.
func TestLexFaults(t *testing.T) {
	checkExprFault(t, ") @", api.Fault{Err: api.ErrLex, A: 1, B: 3})
	checkExprFault(t, "x y\n 03", api.Fault{Err: api.ErrLex, A: 2, B: 2})
	checkExprFault(t, strings.Repeat("not ", 101)+"@", api.Fault{Err: api.ErrLex, A: 1, B: 405})
	checkExprFault(t, ")"+strings.Repeat(" ", api.MaxBytes), api.Fault{Err: api.ErrBound})
	checkExprFault(t, "@"+strings.Repeat(" ", api.MaxBytes), api.Fault{Err: api.ErrBound})
	checkExpr(t, "x"+strings.Repeat(" ", api.MaxBytes-1), v("x"))
	checkFault(t, ") @", api.Fault{Err: api.ErrLex, A: 1, B: 3})
	checkFault(t, "@"+strings.Repeat(" ", api.MaxBytes), api.Fault{Err: api.ErrBound})
}

// P3.1: Expr does not check what layer 2 says of the tree.
func TestExprIsNotHeldToTheBounds(t *testing.T) {
	checkExpr(t, "f("+words(9, "x", ",")+")", call("f", "", kids(9)...))
	checkExpr(t, "f["+words(9, "g", ",")+"](x)", call("f", words(9, "g", " "), v("x")))
	checkExpr(t, "merge c ("+words(9, "A -> x", "|")+")", arms(api.Merge, "c", words(9, "A", " "), kids(9)...))
	checkExpr(t, words(400, "x", "+"), chain(400))
}

func kids(n int) []api.Expr {
	var l []api.Expr
	for range n {
		l = append(l, v("x"))
	}
	return l
}

// chain returns the sum of n times x.
func chain(n int) api.Expr {
	e := v("x")
	for range n - 1 {
		e = bin(e, "+", v("x"))
	}
	return e
}

// P3.1, W0: chains as long as a text may be have their trees, however deep these are.
func TestLongChains(t *testing.T) {
	for text, want := range map[string]int{
		words(api.MaxBytes/2, "x", "+"):          api.MaxBytes / 2,
		words(api.MaxBytes/3, "x", "->"):         api.MaxBytes / 3,
		words(api.MaxBytes/6, "x", " fby "):      api.MaxBytes / 6,
		"x" + strings.Repeat(" when A(c)", 6000): 6001,
	} {
		e, f := parse.Expr(text)
		if d := tree.Depth(e); f != (api.Fault{}) || d != want {
			t.Errorf("Expr(%.20q): depth %d, %v, want %d", text, d, f, want)
		}
		if prefix := inNode("y="); len(prefix)+len(text)+1 <= api.MaxBytes {
			checkFault(t, inNode("y="+text+";"), api.Fault{Err: api.ErrBound})
		}
	}
	wide := "f(" + words(api.MaxBytes/2-2, "x", ",") + ")"
	if e, f := parse.Expr(wide); f != (api.Fault{}) || len(e.Kids) != api.MaxBytes/2-2 {
		t.Errorf("Expr(%.20q): %d kids, %v", wide, len(e.Kids), f)
	}
}

package parse_test

import (
	"math/rand"
	"strings"
	"testing"

	"pendule/api"
	"pendule/parse"
)

// mostOpen is how many unaries may be open at most.
const mostOpen = 100

// nests are ways to have an expression inside one unary that is open: what stands ahead of it and behind it. The first ones have no other expression ahead of it.
var nests = [][2]string{
	{"not ", ""}, {"- ", ""}, {"pre ", ""}, {"(", ")"}, {"if ", " then x else x"}, {"f(", ")"}, {"f[g, h](", ", x)"}, {"merge c (A -> ", ")"}, {"match c (A -> ", "| B -> x)"},
	{"if x then ", " else x"}, {"if x then x else ", ""}, {"f(x, -x, ", ", x)"}, {"f(x) every ", ""}, {"(f(x)) every ", ""},
	{"merge c (A -> x | B -> ", "| C -> x)"}, {"match c (A -> x | B -> ", ")"},
	{"( x when A(c) -> x fby x or (x) and x < x + x * ", ")"}, {"(-(-(x)) * ", ")"},
}

const bareNests = 9

// inside returns the text of core inside of n nests that pick draws, and where the core is. The last few are bare: what is ahead of the core in the others would need more unaries than the core.
func inside(n int, pick, bare func() int, core string) (string, int) {
	left, right := "", ""
	for i := range n {
		w := nests[bare()]
		if i < n-6 {
			w = nests[pick()]
		}
		left, right = left+w[0], w[1]+right
	}
	return left + core + right, len(left) + 1
}

// P3.1: a unary may be needed while 99 are open, and not while 100 are, whatever they are.
func TestOpenUnaries(t *testing.T) {
	r := rand.New(rand.NewSource(1))
	bare := func() int { return r.Intn(bareNests) }
	picks := []func() int{func() int { return r.Intn(len(nests)) }}
	for i := range nests {
		picks = append(picks, func() int { return i })
	}
	for i := range 200 {
		pick := picks[i%len(picks)]
		text, _ := inside(mostOpen-1, pick, bare, "x")
		if _, f := parse.Expr(text); f != (api.Fault{}) {
			t.Errorf("Expr(%q): fault %v", text, f)
		}
		text, col := inside(mostOpen, pick, bare, "x")
		checkExprFault(t, text, bound(1, col))
		text, col = inside(mostOpen, pick, bare, ")")
		checkExprFault(t, text, bound(1, col))
	}
}

// P3.1: too many unaries are the fault at any token, even one that cannot begin a unary, and the end token.
func TestBoundAtAnyToken(t *testing.T) {
	deep := strings.Repeat("not ", mostOpen)
	deepNode := "node f (x) = (y) where y = " + deep
	for _, s := range []string{"x", "1", "A", "true", "not x", "-", "(x)", "f(x)", "merge", "if", ")", "*", "->", ";", "fby", "end", "every", "type", "|", ""} {
		checkExprFault(t, deep+s, bound(1, len(deep)+1))
		checkFault(t, deepNode+s, bound(1, len(deepNode)+1))
	}
	checkExprFault(t, strings.Repeat("(", mostOpen), bound(1, mostOpen+1))
	checkExprFault(t, strings.Repeat("(", mostOpen-1), syntax(1, mostOpen))
	checkExprFault(t, strings.Repeat("f(", mostOpen)+")", bound(1, 2*mostOpen+1))
	checkExprFault(t, strings.Repeat("f(", mostOpen-1)+")", syntax(1, 2*mostOpen-1))
	checkExprFault(t, strings.Repeat("pre\n", mostOpen)+" x", bound(mostOpen+1, 2))
}

// P3.1: the first of a syntax fault and of too many unaries in the text is the fault.
func TestBoundAgainstSyntax(t *testing.T) {
	deep := strings.Repeat("not ", mostOpen)
	checkExprFault(t, ") "+deep+"x", syntax(1, 1))
	checkExprFault(t, deep+"x )", bound(1, len(deep)+1))
	checkExprFault(t, "x every "+deep+"x", syntax(1, 3))
	checkExprFault(t, "x < x < "+deep+"x", syntax(1, 7))
	checkExprFault(t, deep[4:]+"x )", syntax(1, len(deep)-1))
	checkExprFault(t, deep[4:]+"x + "+deep+"x )", bound(1, 2*len(deep)+1))
}

// negated returns x behind n times not.
func negated(n int) string { return strings.Repeat("not ", n) + "x" }

// P3.1: a unary that is complete is not open any more: those of the operands and of the elements of lists ahead are.
func TestCompleteUnaries(t *testing.T) {
	checkNoFault := func(text string) {
		t.Helper()
		if _, f := parse.Expr(text); f != (api.Fault{}) {
			t.Errorf("Expr(%.20q .. %.20q): fault %v", text, text[len(text)-20:], f)
		}
	}
	for _, s := range []string{"->", "fby", "or", "and", "+", "-", "*", "/", "%"} {
		checkNoFault(words(150, negated(99), " "+s+" "))
	}
	checkNoFault(negated(99) + " < " + negated(99))
	checkNoFault("(" + words(150, negated(98), " + ") + ")")
	checkNoFault("f(" + words(150, negated(98), ",") + ")")
	checkNoFault("merge c (" + words(150, "A -> "+negated(98), "|") + ")")
	checkNoFault("match c (" + words(150, "A -> "+negated(98), "|") + ")")
	checkNoFault("if " + negated(98) + " then " + negated(98) + " else " + negated(98))
	checkNoFault("f(" + negated(98) + ") every " + negated(98))
	checkNoFault("x" + strings.Repeat(" when A(c)", 200) + " + " + negated(99))
	checkNoFault(words(200, "x", " when A(c) -> "))
}

// P3.1: what stands behind every is inside the unary of the call, and the unary of a call in parentheses is the one around these.
func TestBoundBehindEvery(t *testing.T) {
	for _, s := range []string{"f(x) every ", "(f(x)) every ", "((f(x))) every "} {
		checkExpr(t, s+"x", of(api.Every, call("f", "", v("x")), v("x")))
		checkExprFault(t, s+negated(99), bound(1, len(s+negated(99))))
		text := "x * (" + s + negated(97) + ") + " + negated(99) + " - (" + s + negated(98)
		checkExprFault(t, text+")", bound(1, len(text)))
	}
}

// P3.1: each equation and each transition begins with no unary open.
func TestBoundOfEachExpression(t *testing.T) {
	equations := words(3, "y = "+negated(99)+";", " ")
	ways := words(3, "until "+negated(99)+" then A;", " ")
	checkFault(t, inNode(equations+" automaton state A: "+equations+ways+" end; "+equations), api.Fault{Err: api.ErrBound})
	for _, items := range []string{"y = ", "y = x; (y) = ", "automaton state A: until ", "automaton state A: y = "} {
		text := items + negated(100)
		checkFault(t, inNode(text), bound(1, itemCol+len(text)-1))
	}
}

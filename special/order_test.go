package special_test

import (
	"strconv"
	"strings"
	"testing"

	"pendule/api"
)

// P12.1: the items are visited in their order.
func TestOrderOfItems(t *testing.T) {
	checkOrder(t, "main = x;", "")
	checkOrder(t, "main = a(x);", "a")
	checkOrder(t, "main = a(x); z = b(x); w = c(x);", "a b c")
	checkOrder(t, "w = c(x); main = b(x); z = a(x);", "c b a")
	checkOrder(t, "z = pre w; w = a(v); v = b(x); main = c(w);", "a b c")
	checkOrder(t, "(z, w) = pair[b](x, x); main = a(x);", "b u v a")
}

// P12.1: within an expression, a call is visited behind those in its kids, and the kids are in order.
func TestOrderOfKids(t *testing.T) {
	checkOrder(t, "main = a(b(c(x)));", "c b a")
	checkOrder(t, "main = c(b(a(x)));", "a b c")
	checkOrder(t, "main = add(b(x), a(x));", "b a add")
	checkOrder(t, "main = add(a(c(x)), b(x));", "c a b add")
	checkOrder(t, "main = c(x + a(x) * b(x));", "a b c")
	checkOrder(t, "main = b(add(a(x), x)) + c(x);", "a add b c")
	checkOrder(t, "(main, z) = pair[a](c(x), b(x));", "c b a u v")
}

// P12.1: the calls in an expression that is no call are visited kid by kid, whether it reads them at once or not.
func TestOrderInExpressions(t *testing.T) {
	for _, s := range []string{
		"b(x) + a(x)", "- b(x) * a(x)", "if b(x) < 1 then a(x) else x", "if x < 1 then b(x) else a(x)", "if b(x) < 1 then x else a(x)",
		"b(x) fby a(x)", "b(x) -> a(x)", "pre b(x) -> a(x)", "(pre b(x)) + a(x)",
		"(b(x) when A(k)) + a(x)", "merge k (A -> b(x) | B -> a(x))", "(merge k (A -> x | B -> b(x))) - a(x)", "if not (b(x) = x) then 1 else a(x)",
	} {
		checkOrder(t, "main = "+s+"; k = A;", "b a")
	}
	checkOrder(t, "main = if c(x) = 1 then b(x) else a(x);", "c b a")
}

// P12.1: of a call with a condition, the call is visited ahead of the condition.
func TestOrderOfEvery(t *testing.T) {
	checkOrder(t, "main = a(x) every (b(x) < 1);", "a b")
	checkOrder(t, "main = a(c(x)) every (b(x) < 1);", "c a b")
	checkOrder(t, "main = use[c](b(x)) every (a(x) < 1);", "b c use a")
	checkOrder(t, "main = add(a(x) every (b(x) < 1), c(x)) every (b(x) = 2);", "a b c add")
}

// P12.1: at a call, what its Cons denote is visited behind its kids, in order, and ahead of the callee.
func TestOrderOfCons(t *testing.T) {
	checkOrder(t, "main = use[a](x);", "a use")
	checkOrder(t, "main = use[a](b(x));", "b a use")
	checkOrder(t, "main = both[c, a](b(x));", "b c a both")
	checkOrder(t, "main = both[a, c](b(x));", "b a c both")
	checkOrder(t, "main = both[b, b](x);", "b both")
	checkOrder(t, "main = use[b](use[a](x));", "a use b use")
}

// P12.1: what an instance needs is visited when it is, ahead of its own number: first what is passed, then what the callee calls.
func TestOrderOfNeeds(t *testing.T) {
	checkOrder(t, "main = deep(x);", "c deep")
	checkOrder(t, "main = add(deep(x), a(x));", "c deep a add")
	checkOrder(t, "main = use[deep](a(x));", "a c deep use")
	checkOrder(t, "main = both[deep, a](x);", "c deep a both")
	checkOrder(t, "main = after[a](x);", "a c b after")
	checkOrder(t, "main = after[deep](x);", "c deep b after")
	checkOrder(t, "main = after[b](a(x));", "a b c after")
	checkOrder(t, "main = on[a](x);", "a use on")
	checkOrder(t, "main = on[deep](x) + use[a](x);", "c deep use on a use")
}

// P12.1, P12.2: an instance is visited once, and two of one node differ in what is passed.
func TestOnce(t *testing.T) {
	checkOrder(t, "main = a(a(x)) + a(x); z = a(x) every (a(x) < 1);", "a")
	checkOrder(t, "main = deep(x) + c(x);", "c deep")
	checkOrder(t, "main = c(x) + deep(x);", "c deep")
	checkOrder(t, "main = use[a](x); z = use[a](x); w = a(x);", "a use")
	checkOrder(t, "main = use[a](x); z = use[b](x); w = use[a](x); v = use[b](x);", "a use b use")
	checkOrder(t, "main = both[a, b](x); z = both[b, a](x); w = both[a, a](x); v = both[b, b](x); u = both[a, b](x);", "a b both both both both")
	checkOrder(t, "main = on[a](x); z = use[a](x); w = on[a](x);", "a use on")
	checkOrder(t, "main = use[a](x); z = on[a](x);", "a use on")
	checkOrder(t, "main = use[a](x); z = use[deep](x); w = after[a](x); v = on[deep](x);", "a use c deep use b after on")
}

// P12.1: where each node calls the one ahead of it many times, each is visited once all the same.
func TestManyWays(t *testing.T) {
	text := func(first, letter, last string) string {
		s := "node " + first + " (x) = (y) where y = x; end "
		callee := first
		for k := 1; k < api.MaxNodes; k++ {
			name := letter + strconv.Itoa(k)
			if k == api.MaxNodes-1 {
				name = last
			}
			s += "node " + name + " (x) = (y) where y = " + strings.Repeat(callee+"("+callee+"(x)) + ", 20) + "x; end "
			callee = name
		}
		return s
	}
	checkMade(t, text("n0", "n", "main"), text("i0", "i", "i15"))
}

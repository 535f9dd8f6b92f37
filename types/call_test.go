package types_test

import (
	"strings"
	"testing"
)

// P8.1: a call has the Ins and Outs of its callee, and each call an instance of its own.
func TestCalls(t *testing.T) {
	checkVars(t, "y = inc(x);", "x:int y:int")
	checkVars(t, "y = same(x);", "x:-1 y:-1")
	checkVars(t, "y = any(x);", "x:-1 y:-2")
	checkVars(t, "y = eq(x, z); z = z;", "x:-1 y:bool z:-1")
	checkVars(t, "y = eq(x, 1);", "x:int y:bool")
	checkVars(t, "(y, z) = two(x, 1);", "x:-1 y:int z:-1")
	checkVars(t, "(y, z) = two(x, w); w = w;", "x:-1 y:-2 z:-1 w:-2")
	checkVars(t, "y = same(same(x) + 1);", "x:int y:int")
	checkItems(t, 0, "y = inc(true);", "y = not inc(x);", "y = inc(Red) fby 1;", "y = eq(1, true);", "y = eq(Red, One);", "y = eq(x, x) + 1;",
		"(y, z) = two(inc(true), x);", "y = same(1) and true;", "y = same(1 + true);", "y = inc(same(true));", "y = same(same(1)) fby true;")
	checkItems(t, 1, "y = same(x); z = x + 1 fby not y;", "(y, z) = two(x, 1); w = not y;", "(y, z) = two(true, x); w = z + 1;")
	checkVars(t, "y = same(1); z = same(true); w = same(Red); v = same(x);", "x:-1 y:int z:bool w:colour v:-1")
	checkVars(t, "y = eq(1, 2) and eq(Red, Blue) and eq(x, true);", "x:bool y:bool")
	checkVars(t, "y = any(any(x)); z = any(1) + 1; w = not any(1);", "x:-1 y:-2 z:int w:bool")
	checkVars(t, "(y, z) = two(1, true); (w, v) = two(x, Red);", "x:-1 y:bool z:int w:colour v:-1")
}

// P8.1: the second kid of an every is a boolean, and its results are those of its call.
func TestEvery(t *testing.T) {
	checkVars(t, "y = inc(z) every x; z = z;", "x:bool y:int z:int")
	checkVars(t, "y = same(z) every x; z = z;", "x:bool y:-1 z:-1")
	checkVars(t, "(y, z) = two(w, 1) every x; w = w;", "x:bool y:int z:-1 w:-1")
	checkVars(t, "y = not (eq(x, 1) every y);", "x:int y:bool")
	checkVars(t, "y = same(1) every (same(true) every x);", "x:bool y:int")
	checkItems(t, 0, "y = inc(x) every 1;", "y = inc(x) every x;", "y = inc(x) every Red;", "y = not (inc(x) every true);", "y = inc(true) every x;",
		"(y, z) = two(1, 2) every 3;", "y = inc(x) every (inc(x) every true);", "y = inc(inc(1) every 2);", "y = inc(x) every y;")
}

// P8.1: the signature of a node has its own type variables, not those of its callees, and types that go through several nodes stay.
func TestChains(t *testing.T) {
	checkTypes(t, prelude+"node g (x, z) = (y, w) where (w, y) = two(same(x), z); end", "-1 -2 -> -1 -2 | x:-1 z:-2 w:-2 y:-1")
	checkTypes(t, prelude+"node g (x, z) = (y) where (w, y) = two(x, z) every eq(x, z); end", "-1 -1 -> -1 | x:-1 z:-1 w:-1 y:-1")
	checkTypes(t, prelude+"node g (x) = (y) where y = same(x) fby Red; end node h (x) = (y) where y = same(g(x)); end", "colour -> colour | x:colour y:colour")
	checkFault(t, typeFault(last+1, 0), prelude+"node g (x) = (y) where y = same(x) fby Red; end node h (x) = (y) where y = g(One); end")
	text := "node n0 (x, z) = (y, w) where y = z; w = x; end "
	for i := 1; i < 16; i++ {
		name, callee := "n"+strings.Repeat("i", i), "n"+strings.Repeat("i", i-1)
		if i == 1 {
			callee = "n0"
		}
		text += "node " + name + " (x, z) = (y, w) where (y, w) = " + callee + "(x, z); end "
	}
	checkTypes(t, text, "-1 -2 -> -2 -1 | x:-1 z:-2 y:-2 w:-1")
}

// static is a node with two static parameters, two Ins and these items.
func static(items string) string {
	return prelude + "node f [g, h] (x, c) = (y) where " + items + " end"
}

// P8.1: a static parameter has one signature within its node.
func TestStaticParameters(t *testing.T) {
	checkTypes(t, static("y = g(x); z = h(c);"), "[-1 -> -2, -3 -> -4] -1 -3 -> -2 | x:-1 c:-3 y:-2 z:-4")
	checkTypes(t, static("y = g(x) + h(c);"), "[-1 -> int, -2 -> int] -1 -2 -> int | x:-1 c:-2 y:int")
	checkTypes(t, static("y = g(x) every h(c, 1);"), "[-1 -> -2, -3 int -> bool] -1 -3 -> -2 | x:-1 c:-3 y:-2")
	checkTypes(t, static("y = g(h(x, c));"), "[-1 -> -2, -3 -4 -> -1] -3 -4 -> -2 | x:-3 c:-4 y:-2")
	checkTypes(t, static("y = g(x); z = g(c); w = h(1);"), "[-1 -> -2, int -> -3] -1 -1 -> -2 | x:-1 c:-1 y:-2 z:-2 w:-3")
	checkTypes(t, static("(y, z, w) = g(x) every c; v = h(w, z);"), "[-1 -> -2 -3 -4, -4 -3 -> -5] -1 bool -> -2 | x:-1 c:bool y:-2 z:-3 w:-4 v:-5")
	checkFault(t, typeFault(last, 0), static("y = g(1) = g(true); z = h(x);"), static("y = g(g(1) = 2); z = h(x);"), static("y = h(1) and g(h(true));"))
	checkFault(t, typeFault(last, 1), static("y = g(1); z = g(true); w = h(1);"), static("y = g(x) + 1; z = not g(c); w = h(1);"), static("y = h(g(x)); z = g(h(1)) + h(true);"),
		static("y = g(x) + 1; z = h(x) every g(c);"))
}

// P8.1: a static parameter has the counts of Ins and Outs of its first call: item by item, a call ahead of those in its kids, kids in order.
func TestFirstCalls(t *testing.T) {
	checkFault(t, typeFault(last, 0), static("y = g(g(x, c)); z = h(x);"), static("y = g(g(x), c); z = h(x);"), static("y = g(x) + g(x, c); z = h(x);"),
		static("y = g(x, c) + g(x); z = h(x);"), static("y = g(x) every g(x, c); z = h(x);"), static("y = h(g(x)) every g(x, c);"),
		static("(y, z) = g(g(x)); w = h(x);"), static("(y, z) = g(x) every g(x); w = h(x);"), static("(y, z) = h(g(x)) every h(x); w = g(1);"))
	checkFault(t, typeFault(last, 1), static("y = g(x); z = g(x, c); w = h(x);"), static("y = g(x, c); z = g(x); w = h(x);"), static("(y, z) = g(x); w = g(x) + h(x);"),
		static("y = g(x) + h(x); (z, w) = g(x);"), static("y = g(x) + h(x); (z, w) = g(x) every true;"), static("(y, z) = g(x); (a, b, c2) = g(x); w = h(x);"))
	// The count is that of the first call even where another one would let more equations be typed together.
	checkFault(t, typeFault(last, 1), static("y = g(x); z = g(x, c); w = g(x, c); v = h(x);"))
	checkFault(t, typeFault(last, 0), static("z = g(h(x), g(x)); y = g(x);"), static("z = h(x) + g(g(x, x)) ; y = g(x, x);"))
	checkTypes(t, static("(y, z) = g(h(x)); (w, v) = g(h(c)) every true;"), "[-1 -> -2 -3, -4 -> -1] -4 -4 -> -2 | x:-4 c:-4 y:-2 z:-3 w:-2 v:-3")
	checkTypes(t, static("y = 1 + (g(x, h(c)) fby g(c, h(x)));"), "[-1 -2 -> int, -1 -> -2] -1 -1 -> int | x:-1 c:-1 y:int")
}

// P8.1: a static parameter that is never called is a fault of its node, ahead of those of the items.
func TestUncalled(t *testing.T) {
	checkFault(t, typeFault(last, -1), static("y = x;"), static("y = g(x);"), static("y = h(x);"), static("y = g(x) + true;"), static("y = 1 + true; z = h(g2); g2 = x;"),
		static("y = g(x) + g(x, x);"), static("y = twice[g](x);"), static("y = twice[g](x) + h(1);"), static("y = twice[g](x) + twice[h](x);"), static("g = x; y = h(g);"),
		prelude+"node f [g] (g2) = (y) where y = twice[g](g2); end", prelude+"node f [g] (x) = (y) where y = 1 + true; end node h (x) = (y) where y = 1 + true; end")
	checkTypes(t, static("y = twice[g](x); z = h(1) and g(true);"), "[bool -> bool, int -> bool] bool -1 -> bool | x:bool c:-1 y:bool z:bool")
	checkTypes(t, static("g = h(x); h = g(g); y = g(x);"), "[-1 -> -2, -1 -> -1] -1 -3 -> -2 | x:-1 c:-3 g:-1 h:-2 y:-2")
	// The name of a later node is not that of a call.
	checkFault(t, typeFault(0, -1), "node f [g] (x) = (y) where y = x; end node g (x) = (y) where y = x; end")
	checkTypes(t, "node f [g] (x) = (y) where y = g(x, 1); end node g (x) = (y) where y = x; end", "-1 -> -1 | x:-1 y:-1")
}

// P8.1: what is passed for a static parameter has as many Ins and Outs, and the same types.
func TestStaticArguments(t *testing.T) {
	checkVars(t, "y = twice[inc](x);", "x:int y:int")
	checkVars(t, "y = twice[same](x);", "x:-1 y:-1")
	checkVars(t, "y = twice[any](x);", "x:-1 y:-1")
	checkVars(t, "y = twice[same](1); z = twice[same](true); w = twice[same](x);", "x:-1 y:int z:bool w:-1")
	checkVars(t, "y = twice[same](twice[inc](x)) every twice[same](true);", "x:int y:int")
	checkItems(t, 0, "y = twice[inc](true);", "y = not twice[inc](x);", "y = twice[two](x);", "y = twice[eq](x);", "y = twice[same](1) and true;", "y = twice[any](1) and true;")
	checkItems(t, 1, "y = twice[inc](x); z = not x;", "y = twice[same](x); z = twice[two](x);", "z = x; y = twice[eq](z) every true;")
	both := prelude + "node both [g, h] (x) = (y, z) where y = g(x); (w, z) = h(x, y); end "
	checkTypes(t, both, "[-1 -> -2, -1 -2 -> -3 -4] -1 -> -2 -4 | x:-1 y:-2 w:-3 z:-4")
	checkTypes(t, both+"node f (x) = (y, z) where (y, z) = both[inc, two](x); end", "int -> int int | x:int y:int z:int")
	checkTypes(t, both+"node f (x) = (y, z) where (y, z) = both[any, two](x); end", "-1 -> -2 -1 | x:-1 y:-2 z:-1")
	checkTypes(t, both+"node f (x) = (y, z) where (y, z) = both[same, two](x) every true; end", "-1 -> -1 -1 | x:-1 y:-1 z:-1")
	checkFault(t, typeFault(last+1, 0), both+"node f (x) = (y, z) where (y, z) = both[two, same](x); end", both+"node f (x) = (y, z) where (y, z) = both[same, same](x); end",
		both+"node f (x) = (y, z) where (y, z) = both[two, two](x); end", both+"node f (x) = (y, z) where (y, z) = both[same, eq](x); end", both+"node f (x) = (y, z) where (y, z) = both[eq, two](x); end")
	// Each time that a node is passed it is another instance.
	pair := prelude + "node pair [g, h] (x, z) = (y) where y = g(x) = 1 and h(z); end "
	checkTypes(t, pair+"node f (x) = (y) where y = pair[same, same](1, true); end", "-1 -> bool | x:-1 y:bool")
	checkFault(t, typeFault(last+1, 0), pair+"node f (x) = (y) where y = pair[same, same](true, 1); end")
	checkTypes(t, pair+"node f (x) = (y) where y = pair[any, any](x, x); end", "-1 -> bool | x:-1 y:bool")
}

// P8.1: a static parameter that is passed on has the signature of the one that it is passed for.
func TestPassedOn(t *testing.T) {
	checkTypes(t, static("y = twice[g](x); z = g(h(c));"), "[-1 -> -1, -2 -> -1] -1 -2 -> -1 | x:-1 c:-2 y:-1 z:-1")
	checkTypes(t, static("z = g(h(c)); y = twice[g](x);"), "[-1 -> -1, -2 -> -1] -1 -2 -> -1 | x:-1 c:-2 z:-1 y:-1")
	checkTypes(t, static("y = twice[g](1) = 1; z = g(c); w = twice[h](y) = h(true);"), "[int -> int, bool -> bool] -1 int -> bool | x:-1 c:int y:bool z:int w:bool")
	// Other than a node, it is the same at each place.
	checkFault(t, typeFault(last, 1), static("y = twice[g](1); z = twice[g](true); w = g(h(c));"), static("y = g(1); z = twice[g](true) = h(1);"))
	checkFault(t, typeFault(last, 2), static("y = twice[g](x); z = 1 + x; w = not g(c); v = h(x);"))
	// A later call gives it counts that the place where it is passed does not have.
	checkFault(t, typeFault(last, 0), static("y = twice[g](x); z = g(h(c), x);"), static("y = twice[g](x); (z, w) = g(h(c));"), static("y = twice[h](x); z = g(h(c, c));"))
	checkFault(t, typeFault(last, 1), static("z = g(h(c), x); y = twice[g](x);"), static("(z, y) = g(h(c)); w = twice[g](x);"))
}

package types_test

import (
	"strings"
	"testing"
)

// P8.1: the examples of the chapter.
func TestExamples(t *testing.T) {
	checkTypes(t, "node f(x) = (y) where y = x fby x; end", "-1 -> -1 | x:-1 y:-1")
	checkTypes(t, "node g(x) = (y) where y = x + 1 = 2; end", "int -> bool | x:int y:bool")
}

// P8.1: literals, constructors and variables.
func TestLeaves(t *testing.T) {
	checkVars(t, "y = 0;", "x:-1 y:int")
	checkVars(t, "y = 9223372036854775807;", "x:-1 y:int")
	checkVars(t, "y = true;", "x:-1 y:bool")
	checkVars(t, "y = false;", "x:-1 y:bool")
	checkVars(t, "y = True;", "x:-1 y:bool")
	checkVars(t, "y = False;", "x:-1 y:bool")
	checkVars(t, "y = Red;", "x:-1 y:colour")
	checkVars(t, "y = Blue;", "x:-1 y:colour")
	checkVars(t, "y = One;", "x:-1 y:one")
	checkVars(t, "y = x;", "x:-1 y:-1")
	checkVars(t, "y = y;", "x:-1 y:-2")
	checkVars(t, "y = z; z = x; w = w;", "x:-1 y:-1 z:-1 w:-2")
	checkItems(t, 2, "y = x; z = 1; y2 = z + True;", "z = Red; y = One; w = z = y;", "z = 1; y = z; w = not y;")
}

// P8.1: the kids of an operator have its operand type, and it has its result type.
func TestOperators(t *testing.T) {
	checkVars(t, "y = - x;", "x:int y:int")
	checkVars(t, "y = not x;", "x:bool y:bool")
	for _, o := range []string{"+", "-", "*", "/", "%"} {
		checkVars(t, "y = x "+o+" z; z = z;", "x:int y:int z:int")
		checkItems(t, 0, "y = true "+o+" 1;", "y = 1 "+o+" Red;", "y = (1 < 2) "+o+" 3;")
		checkItems(t, 1, "z = 1; y = not (x "+o+" z);")
	}
	for _, o := range []string{"<", "<="} {
		checkVars(t, "y = x "+o+" z; z = z;", "x:int y:bool z:int")
		checkItems(t, 0, "y = true "+o+" 1;", "y = 1 "+o+" true;", "y = Red "+o+" Green;", "y = (x "+o+" 1) + 1;")
	}
	for _, o := range []string{"and", "or"} {
		checkVars(t, "y = x "+o+" z; z = z;", "x:bool y:bool z:bool")
		checkItems(t, 0, "y = 1 "+o+" true;", "y = true "+o+" 0;", "y = Red "+o+" True;", "y = (x "+o+" true) + 1;")
	}
	for _, o := range []string{"=", "<>"} {
		checkVars(t, "y = x "+o+" z; z = z;", "x:-1 y:bool z:-1")
		checkVars(t, "y = x "+o+" Red;", "x:colour y:bool")
		checkVars(t, "y = 1 "+o+" x;", "x:int y:bool")
		checkVars(t, "y = (x "+o+" y) "+o+" true;", "x:bool y:bool")
		checkItems(t, 0, "y = 1 "+o+" true;", "y = Red "+o+" One;", "y = True "+o+" One;", "y = (x "+o+" x) + 1;")
	}
	checkItems(t, 0, "y = - true;", "y = not 1;", "y = - Red;", "y = not One;", "y = not (- x);", "y = - (not x);", "y = x + (not x);")
}

// P8.1: the first kid of an if is a boolean; the others have the type of the if.
func TestIf(t *testing.T) {
	checkVars(t, "y = if x then y else z; z = z;", "x:bool y:-1 z:-1")
	checkVars(t, "y = if true then x else z; z = z;", "x:-1 y:-1 z:-1")
	checkVars(t, "y = if x then Red else z; z = z;", "x:bool y:colour z:colour")
	checkVars(t, "y = if x then z else 1; z = z;", "x:bool y:int z:int")
	checkVars(t, "y = if x = x then x else x;", "x:-1 y:-1")
	checkItems(t, 0, "y = if 1 then x else x;", "y = if Red then x else x;", "y = if x then 1 else true;", "y = if x then Red else One;",
		"y = if x then x else 1;", "y = if x then 1 else x;", "y = (if x then Red else Blue) + 1;")
}

// P8.1: the kids of a fby and of an arrow have one type, that of the whole.
func TestDelays(t *testing.T) {
	for _, o := range []string{"fby", "->"} {
		checkVars(t, "y = x "+o+" z; z = z;", "x:-1 y:-1 z:-1")
		checkVars(t, "y = 1 "+o+" x;", "x:int y:int")
		checkVars(t, "y = x "+o+" Red;", "x:colour y:colour")
		checkItems(t, 0, "y = 1 "+o+" true;", "y = Red "+o+" One;", "y = (1 "+o+" x) and true;", "y = 1 "+o+" not y;")
	}
	checkVars(t, "y = pre x;", "x:-1 y:-1")
	checkVars(t, "y = pre (x + 1);", "x:int y:int")
	checkVars(t, "y = (pre x) = 1;", "x:int y:bool")
	checkItems(t, 0, "y = not pre 1;", "y = pre (1 + true);", "y = pre - not x;")
}

// P8.1: a when and a merge have the type of their kids, and the variables that they name that of their constructors.
func TestSamples(t *testing.T) {
	checkVars(t, "y = z when Red(x); z = z;", "x:colour y:-1 z:-1")
	checkVars(t, "y = 1 when One(x);", "x:one y:int")
	checkVars(t, "y = y when True(x);", "x:bool y:-1")
	checkVars(t, "y = (x when False(x)) = z; z = z;", "x:bool y:bool z:bool")
	checkVars(t, "y = y when Red(x) when One(z); z = One when Blue(w); w = w;", "x:colour y:-1 z:one w:colour")
	checkItems(t, 0, "y = 1 + (true when Red(x));", "y = (x + 1) when Red(x);", "y = x when Red(x) when One(x);", "y = 1 when Red(y);", "y = 1 when True(y);")
	checkVars(t, "y = merge x (Red -> z | Green -> w | Blue -> z); z = z; w = w;", "x:colour y:-1 z:-1 w:-1")
	checkVars(t, "y = merge x (False -> z | True -> 1); z = z;", "x:bool y:int z:int")
	checkVars(t, "y = merge x (One -> z); z = z;", "x:one y:-1 z:-1")
	checkVars(t, "y = merge x (Red -> Red | Green -> z | Blue -> x); z = z;", "x:colour y:colour z:colour")
	checkItems(t, 0, "y = merge x (Red -> 1 | Green -> 2 | Blue -> true);", "y = merge x (Red -> true | Green -> 2 | Blue -> 2);",
		"y = merge x (Red -> 1 | Green -> One | Blue -> 2);", "y = not merge x (False -> 1 | True -> 2);", "y = x + merge x (One -> 1);",
		"y = merge y (One -> 1);", "y = merge x (Red -> 1 | Green -> x | Blue -> 1);", "y = merge x (False -> x | True -> 1);")
	checkItems(t, 1, "z = 1 when Red(x); y = 1 when One(x);", "z = merge x (One -> 1); y = merge x (False -> 1 | True -> 2);")
}

// P8.1: the types of the kids reach through all that has the type of its kids.
func TestNested(t *testing.T) {
	for _, around := range []string{"@ fby y", "y fby @", "@ -> y", "y -> @", "pre @", "@ when Red(x)", "merge x (Red -> @ | Green -> y | Blue -> y)",
		"merge x (Red -> y | Green -> y | Blue -> @)", "if x = x then @ else y", "if x = x then y else @", "same(@)", "same(@) every (x = x)"} {
		for _, e := range []string{"1", "(2 + z)", "(pre (z fby 1))"} {
			items := "y = " + strings.Replace(around, "@", e, 1) + "; z = z;"
			if strings.Contains(around, "(x)") || strings.Contains(around, "merge") {
				checkWithin(t, items, "x:colour y:int")
			} else {
				checkWithin(t, items, "x:-1 y:int")
			}
			checkItems(t, 1, "w = true; y = w and "+strings.Replace(around, "@", e, 1)+"; z = z;")
		}
	}
}

// checkWithin holds the types of the first variables only.
func checkWithin(t *testing.T, items, want string) {
	t.Helper()
	p := program(t, inNode(items))
	got := showInfo(p, inferred(t, p)[last])
	if !strings.Contains(got, "| "+want+" ") {
		t.Errorf("Infer of %q: %s, want %s", items, got, want)
	}
}

// P8.1: the first item at which the equations cannot be typed together is told, whatever follows.
func TestFirstItem(t *testing.T) {
	checkItems(t, 0, "y = 1 + true;", "y = 1 + true; z = 1 + true;", "y = not y + 1; z = z;")
	checkItems(t, 1, "z = x; y = 1 + true; w = 2 + true;", "y = x; z = not x + y; w = 1 and w;", "y = 1; z = not y; x2 = 2 + true;")
	checkItems(t, 2, "y = x; z = y + 1; w = not x;", "w = not x; y = x; z = y + 1;", "y = z; z = 1; w = not y; v = 1 + true;")
	checkItems(t, 3, "a = x; b = Red; y = a; c = b = y + 1;", "a = b; b = c; y = 1 fby a; c = Red;")
}

// P8.1: type variables are numbered as they first occur in the static parameters, the Ins, the Outs and the variables.
func TestNumbers(t *testing.T) {
	checkTypes(t, "node f (a, b, c) = (y) where y = y; end", "-1 -2 -3 -> -4 | a:-1 b:-2 c:-3 y:-4")
	checkTypes(t, "node f (a, b) = (y, z) where z = a; w = w; y = b; v = v; end", "-1 -2 -> -2 -1 | a:-1 b:-2 z:-1 w:-3 y:-2 v:-4")
	checkTypes(t, "node f (a) = (y, z) where v = v; z = z; w = w; y = y; end", "-1 -> -2 -3 | a:-1 v:-4 z:-3 w:-5 y:-2")
	checkTypes(t, "node f (a, b, c) = (y) where y = a + 1; z = b fby c; w = w; end", "int -1 -1 -> int | a:int b:-1 c:-1 y:int z:-1 w:-2")
	checkTypes(t, "node f [g] (a, b) = (y) where y = g(b, z); z = z; w = w; end", "[-1 -2 -> -3] -4 -1 -> -3 | a:-4 b:-1 y:-3 z:-2 w:-5")
	checkTypes(t, "node f [g, h] (a) = (y) where y = h(v); z = g(w, a); w = w; v = v; end", "[-1 -2 -> -3, -4 -> -5] -2 -> -5 | a:-2 y:-5 z:-3 w:-1 v:-4")
	checkTypes(t, "node f [g] (a) = (y) where y = g(g(a)); end", "[-1 -> -1] -1 -> -1 | a:-1 y:-1")
	checkTypes(t, "node f [g] (a) = (y) where (z, y) = g(a, w, 1); w = z; end", "[-1 -2 int -> -2 -3] -1 -> -3 | a:-1 z:-2 y:-3 w:-2")
	// A type inside of an expression that no variable has is no type of the node, and gets no number.
	checkTypes(t, "node f (a) = (b) where b = b; end node g (x) = (y) where z = f(1) = f(2); y = y; end", "-1 -> -2 | x:-1 z:bool y:-2")
}

package streams_test

import (
	"strings"
	"testing"

	"pendule/api"
	"pendule/sugar"
	"pendule/word"
)

// P13.1: a constant is its value at each instant, that of a constructor is its index.
func TestConstants(t *testing.T) {
	for _, l := range [][2]string{{"7", "7"}, {"0", "0"}, {"9223372036854775807", "9223372036854775807"}, {"false", "0"}, {"true", "1"}, {"False", "0"}, {"True", "1"},
		{"Red", "0"}, {"Green", "1"}, {"Blue", "2"}, {"One", "0"}} {
		checkSimple(t, "y = "+l[0]+";", strings.TrimSpace(strings.Repeat(l[1]+" ", 4)))
	}
}

// P13.1: a variable has the cell of its equation, wherever that stands.
func TestVariables(t *testing.T) {
	checkSimple(t, "y = x;", "1 2 3 4")
	checkSimple(t, "y = c;", "0 1 0 1")
	checkSimple(t, "y = z; z = w; w = x;", "1 2 3 4")
	checkSimple(t, "w = x; y = z; z = w;", "1 2 3 4")
	checkSimple(t, "y = z; z = pre x;", "nil 1 2 3")
	checkPlayed(t, program(t, "node main (x, z) = (w, y, v) where y = x; v = z; w = x - z; end"), "5 6; 1 1", "4 5; 5 6; 1 1")
}

// P13.1: operators have the values of layer 4.
func TestOperators(t *testing.T) {
	numbers := []int64{0, 1, -1, 2, -7, 5, 1<<63 - 1, -1 << 63}
	for _, op := range strings.Fields("+ - * / % < <= = <> and or") {
		a, b := "x", "z"
		if op == "and" || op == "or" {
			a, b = "(x <> 0)", "(z <> 0)"
		}
		p := program(t, "node main (x, z) = (y) where y = "+a+" "+op+" "+b+"; end")
		for _, x := range numbers {
			var script [][]int64
			for _, z := range numbers {
				script = append(script, []int64{x, z})
			}
			for i, row := range played(t, p, "main", script) {
				if want, _ := word.Bin(op, x, numbers[i]); row[0] != (api.Cell{Kind: api.Value, N: want}) {
					t.Errorf("%d %s %d = %v, want %d", x, op, numbers[i], row[0], want)
				}
			}
		}
	}
	checkSimple(t, "y = 5 / 0;", "0 0 0 0")
	checkSimple(t, "y = - x;", "-1 -2 -3 -4")
	checkSimple(t, "y = not c;", "1 0 1 0")
	checkPlayed(t, program(t, "node main (x) = (y) where y = - x; end"), "-9223372036854775808 9223372036854775807", "-9223372036854775808 -9223372036854775807")
}

// P13.1: an operator with an operand that is undefined is undefined, whatever the other one is.
func TestUndefinedOperands(t *testing.T) {
	for _, op := range strings.Fields("+ - * / % < <= = <>") {
		for _, e := range []string{"z @ 0", "0 @ z", "z @ z"} {
			p := program(t, inNode("y = "+strings.Replace(e, "@", op, 1)+"; z = before(x);"))
			if l := played(t, p, "main", readScript(t, "1; 1; 1")); showStreams(l) != "nil" {
				t.Errorf("%s %s: %s", e, op, showStreams(l))
			}
		}
	}
	checkSimple(t, "z = pre c; y = false and z;", "nil 0 0 0")
	checkSimple(t, "z = pre c; y = z and false;", "nil 0 0 0")
	checkSimple(t, "z = pre c; y = true or z;", "nil 1 1 1")
	checkSimple(t, "z = pre c; y = not z;", "nil 1 0 1")
	checkSimple(t, "y = - pre x;", "nil -1 -2 -3")
	checkSimple(t, "y = pre x + pre pre x;", "nil nil 3 5")
}

// P13.1: an If is the branch that is chosen, and undefined if the choice is; both branches have their instants.
func TestIf(t *testing.T) {
	checkSimple(t, "y = if c then x else 0;", "0 2 0 4")
	checkSimple(t, "y = if pre c then 1 else 2;", "nil 2 1 2")
	checkSimple(t, "z = pre x; y = if true then x else z;", "1 2 3 4")
	checkSimple(t, "z = pre x; y = if false then x else z;", "nil 1 2 3")
	checkSimple(t, "z = pre x; y = if c then z else x;", "1 1 3 3")
	checkSimple(t, "z = pre x; y = if d then z else x;", "nil 2 2 4")
	checkSimple(t, "y = if c then count(x) else 10 * count(x);", "10 2 30 4")
	checkSimple(t, "y = if c then 0 fby x else 0;", "0 1 0 3")
	checkSimple(t, "y = if true then x else (if pre c then 1 else 2);", "1 2 3 4")
}

// P13.1: a Fby is its first kid at first, and then what its second kid was an instant before.
func TestFby(t *testing.T) {
	checkSimple(t, "y = 0 fby x;", "0 1 2 3")
	checkSimple(t, "y = x fby 9;", "1 9 9 9")
	checkSimple(t, "y = 0 fby y + x;", "0 1 3 6")
	checkSimple(t, "y = 0 fby (0 fby x);", "0 0 1 2")
	checkSimple(t, "y = 1 fby 2 fby 3;", "1 2 3 3")
	checkSimple(t, "y = (1 fby 2) fby 3;", "1 3 3 3")
	checkSimple(t, "y = (x fby x) fby x + 10;", "1 11 12 13")
	checkSimple(t, "y = pre x fby x;", "nil 1 2 3")
	checkSimple(t, "y = 0 fby pre x;", "0 nil 1 2")
	checkSimple(t, "y = (0 fby x) + (10 fby x);", "10 2 4 6")
	checkSimple(t, "y = 0 fby y;", "0 0 0 0")
}

// P13.1: a Pre is undefined at first, and then what its kid was an instant before.
func TestPre(t *testing.T) {
	checkSimple(t, "y = pre x;", "nil 1 2 3")
	checkSimple(t, "y = pre pre x;", "nil nil 1 2")
	checkSimple(t, "y = pre pre pre x;", "nil nil nil 1")
	checkSimple(t, "y = pre y;", "nil nil nil nil")
	checkSimple(t, "y = pre (y + x);", "nil nil nil nil")
	checkSimple(t, "y = pre 5;", "nil 5 5 5")
	checkSimple(t, "y = pre (0 fby x);", "nil 0 1 2")
	checkSimple(t, "y = pre (x -> 0);", "nil 1 0 0")
}

// P13.1: an Arrow is its first kid at first, and then its second kid.
func TestArrow(t *testing.T) {
	checkSimple(t, "y = x -> 10 * x;", "1 20 30 40")
	checkSimple(t, "y = 0 -> pre x;", "0 1 2 3")
	checkSimple(t, "y = pre x -> x;", "nil 2 3 4")
	checkSimple(t, "y = 1 -> 2 -> 3;", "1 3 3 3")
	checkSimple(t, "y = (1 -> 2) -> 3;", "1 3 3 3")
	checkSimple(t, "y = 1 -> pre (2 -> pre (3 -> x));", "1 2 3 2")
	checkSimple(t, "y = (0 -> x) + (10 -> x);", "10 4 6 8")
	checkSimple(t, "y = 0 -> count(x);", "0 2 3 4")
	checkSimple(t, "y = count(x) -> 0;", "1 0 0 0")
}

// P13.1: two delays that exchange their values read the previous ones.
func TestExchange(t *testing.T) {
	checkSimple(t, "a = 0 fby b; b = 1 fby a; y = 10 * a + b;", "1 10 1 10")
	checkSimple(t, "y = 10 * a + b; b = 1 fby a; a = 0 fby b;", "1 10 1 10")
	checkSimple(t, "a = 0 fby b; b = 1 fby a + b; y = a;", "0 1 1 2")
}

// P13.1: what is sampled is there where the variable has the constructor, and a merge puts together what is there.
func TestSamples(t *testing.T) {
	const z = "z = x when True(c); "
	checkSimple(t, z+"y = merge c (False -> 0 | True -> z);", "0 2 0 4")
	checkSimple(t, z+"y = merge c (False -> 10 * x when False(c) | True -> z + 1);", "10 3 30 5")
	checkSimple(t, "y = merge c (False -> 1 | True -> 2);", "1 2 1 2")
	checkSimple(t, "y = merge b (One -> x when One(b)); b = if c then One else One;", "1 2 3 4")
	checkItems(t, "b = if c then Red else if d then Green else Blue; y = merge b (Red -> 0 fby x when Red(b) | Green -> 10 | Blue -> x when Blue(b));", "1000110", "0010001", "0 2 10 4 1 5 10")
	checkPlayed(t, program(t, "type t = A | B | C; node main (x) = (y) where y = merge x (A -> 5 | B -> 7 | C -> 9); end"), "0 2 1 0", "5 9 7 5")
}

// P13.1: what is there more seldom is delayed by what it was when it was there.
func TestSampledDelays(t *testing.T) {
	const merged = "y = merge c (False -> 0 | True -> z);"
	for _, l := range [][2]string{
		{"z = 10 fby (x when True(c));", "0 10 2 0 3 0"},
		{"z = 10 fby z + 1;", "0 10 11 0 12 0"},
		{"z = pre (x when True(c));", "0 nil 2 0 3 0"},
		{"z = x when True(c) -> 9;", "0 2 9 0 9 0"},
		{"z = (10 fby x) when True(c);", "0 1 2 0 4 0"},
		{"z = (x -> 9) when True(c);", "0 9 9 0 9 0"},
		{"z = (pre x) when True(c);", "0 1 2 0 4 0"},
		{"z = 10 fby (pre x) when True(c);", "0 10 1 0 2 0"},
		{"z = count(x when True(c));", "0 1 2 0 3 0"},
		{"z = count(x) when True(c);", "0 2 3 0 5 0"},
		{"z = total(count(x) when True(c));", "0 2 5 0 10 0"},
		{"z = total(x when True(c)) + 100 * w; w = total(x) when True(c);", "0 302 605 0 1510 0"},
	} {
		checkItems(t, l[0]+merged, "011010", "000000", l[1])
		checkItems(t, merged+l[0], "011010", "000000", l[1])
		// The same without a name of its own.
		arm := strings.Split(strings.TrimPrefix(l[0], "z = "), ";")
		if !strings.Contains(arm[0], "z") {
			checkItems(t, strings.Join(arm[1:], ";")+strings.Replace(merged, "z", arm[0], 1), "011010", "000000", l[1])
		}
	}
}

// P13.1: the kid of a When is there where its variable is, even where the When is not, and however deep in what is not there.
func TestKidsOfAbsentWhens(t *testing.T) {
	const c, d = "001011", "010101"
	checkItems(t, "y = merge c (False -> 0 | True -> count(x) when True(c));", c, d, "0 0 3 0 5 6")
	checkItems(t, "y = merge c (False -> 0 | True -> 1 + (2 * (if d when True(c) then 0 else count(x) when True(c))));", c, d, "0 0 7 0 11 1")
	checkItems(t, "y = merge c (False -> 0 | True -> total(count(x) when True(c)));", c, d, "0 0 3 0 8 14")
	checkItems(t, "y = merge c (False -> 0 | True -> total(x when True(c)) every ((count(x) = 5) when True(c)));", c, d, "0 0 3 0 5 11")
	checkItems(t, "y = merge c (False -> 0 | True -> 7 fby count(x) when True(c));", c, d, "0 0 7 0 3 5")
	checkItems(t, "y = merge c (False -> 0 | True -> count(x) when True(c) fby 7);", c, d, "0 0 3 0 7 7")
	checkItems(t, "y = 9 fby merge c (False -> 0 | True -> count(x) when True(c));", c, d, "9 0 0 3 0 5")
	checkItems(t, "y = pre merge c (False -> 0 | True -> 7 fby count(x) when True(c));", c, d, "nil 0 0 7 0 3")
	checkItems(t, "y = merge c (False -> 0 | True -> pre (pre x) when True(c));", c, d, "0 0 nil 0 2 4")
	checkItems(t, "y = merge c (False -> 0 | True -> (8 -> pre (count(x) when True(c))));", c, d, "0 0 8 0 3 5")
}

// P13.1: clocks of several samples, each of a variable that is there by the one before.
func TestNestedClocks(t *testing.T) {
	const c, d = "0111011", "1101011"
	const nested = "e = d when True(c); z = x when True(c) when True(e); y = merge c (False -> 0 | True -> merge e (False -> 1 | True -> "
	checkItems(t, nested+"z));", c, d, "0 2 1 4 0 6 7")
	checkItems(t, nested+"5 fby z));", c, d, "0 5 1 2 0 4 6")
	checkItems(t, nested+"count(z)));", c, d, "0 1 1 2 0 3 4")
	checkItems(t, nested+"count(x when True(c)) when True(e)));", c, d, "0 1 1 3 0 4 5")
	checkItems(t, nested+"count(x) when True(c) when True(e)));", c, d, "0 2 1 4 0 6 7")
	checkItems(t, nested+"(0 fby count(x) when True(c)) when True(e)));", c, d, "0 0 1 3 0 4 6")
	checkItems(t, nested+"z)) + merge c (False -> 0 | True -> merge e (False -> count(x when True(c) when False(e)) | True -> 0));", c, d, "0 2 2 4 0 6 7")
}

// P13.1: an item may come ahead of the variables of its clock, even though it does not read them.
func TestItemsAheadOfTheirClocks(t *testing.T) {
	const z, e, y = "z = 0 fby w; ", "e = x < 3; ", "y = merge e (False -> 0 - 1 | True -> z); "
	const w = "w = x when True(e); "
	for _, items := range []string{z + w + e + y, z + w + y + e, z + e + w + y, e + z + w + y, y + z + w + e, w + z + y + e, y + w + e + z} {
		checkItems(t, items, "0000", "0000", "0 1 -1 -1")
	}
	// k waits for nothing by what it reads, but it is there by h, which is there by e.
	checkItems(t, "k = 0 fby (k + 1); h = f when True(e); f = true fby d; e = true fby c; y = merge e (False -> 0 | True -> merge h (False -> 10 | True -> k + (0 when True(e) when True(h))));",
		"110110", "101110", "0 1 10 0 2 3")
	// So is the callee of a call that has constants alone.
	checkItems(t, "k = count(1) + (0 when True(e)); e = c; y = merge e (False -> 0 | True -> k);", "0101", "0000", "0 1 0 2")
	checkItems(t, "(u, v) = swap(2 fby u, 1); y = merge e (False -> 0 | True -> u + 10 * v + (0 when True(e))); e = c;", "0101", "0000", "0 21 0 11")
	checkItems(t, "u = 2; (k, v) = swap(5 fby k + 1, 1 -> pre k) every false; e = c; y = merge e (False -> 0 | True -> v + (0 when True(e)));", "0111", "0000", "0 5 2 2")
}

// P13.1: where the variable of a sample is undefined, a merge is undefined, and nothing is there that is sampled by it.
func TestUndefinedClocks(t *testing.T) {
	const c, d = "110100", "000000"
	const e = "e = pre c; "
	checkItems(t, e+"y = merge e (False -> 1 | True -> 2);", c, d, "nil 2 2 1 2 1")
	checkItems(t, e+"y = merge e (False -> 10 * count(x when False(e)) | True -> count(x when True(e)));", c, d, "nil 1 2 10 3 20")
	checkItems(t, e+"y = merge e (False -> 0 | True -> count(x) when True(e));", c, d, "nil 2 3 0 5 0")
	checkItems(t, e+"y = 7 fby merge e (False -> 0 | True -> 0 fby x when True(e));", c, d, "7 nil 0 2 0 3")
	checkItems(t, e+"f = e when True(e); y = merge e (False -> 0 | True -> merge f (False -> 1 | True -> 2));", c, d, "nil 2 2 0 2 0")
	// The variable of an inner sample is undefined where that of the outer one is defined.
	checkItems(t, "e = pre (d when True(c)); y = merge c (False -> 0 | True -> merge e (False -> count(x when True(c) when False(e)) | True -> 9));", "0111", "0100", "0 nil 9 1")
	checkItems(t, "e = pre (d when True(c)); y = merge c (False -> 0 | True -> merge e (False -> count(x when True(c)) when False(e) | True -> 9));", "0111", "0100", "0 nil 9 3")
}

// P13.1: automata and matches mean what layer 6 makes of them.
func TestSugared(t *testing.T) {
	check := func(text, ins, want string) {
		t.Helper()
		p, f := sugar.Plain(program(t, text))
		if f != (api.Fault{}) {
			t.Fatalf("Plain(%q): fault %v", text, f)
		}
		checkPlayed(t, p, ins, want)
	}
	check("node main (c) = (y) where automaton state Up: y = 0 fby y + 1; until c then Down; state Down: y = 10 fby y - 1; until c then Up; end; end",
		"0 0 1 0 1 0 0", "0 1 2 10 9 3 4")
	check("node main (x) = (y, z) where automaton state One: y = 1; z = x; until x < 0 then Three; until x < 5 then Two; state Two: z = - x; y = 2; state Three: y = 3; z = 0; until true then One; end; end",
		"7 -1 5 6 4 9 9", "1 1 3 1 1 2 2; 7 -1 0 6 4 -9 -9")
	check("type t = A | B; node main (x, k) = (y) where y = match k (A -> 0 fby y + x | B -> x); end", "1 2 3 4 5; 0 1 0 0 1", "0 2 1 4 5")
}

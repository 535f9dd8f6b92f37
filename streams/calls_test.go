package streams_test

import "testing"

// P13.1: a call yields the Outs of its callee.
func TestCalls(t *testing.T) {
	checkSimple(t, "y = count(x);", "1 2 3 4")
	checkSimple(t, "y = total(x);", "1 3 6 10")
	checkSimple(t, "y = total(total(x));", "1 4 10 20")
	checkSimple(t, "(z, y) = swap(x, x + 10);", "1 2 3 4")
	checkSimple(t, "(y, z) = swap(x, x + 10);", "11 12 13 14")
	checkSimple(t, "(a, b) = swap(1 fby a, 2 fby b); y = 10 * a + b;", "21 12 21 12")
	checkSimple(t, "y = before(x);", "nil 1 2 3")
	checkSimple(t, "y = 0 -> before(x);", "0 1 2 3")
	checkPlayed(t, program(t, prelude+"node main (x, z) = (y, v, w) where (w, y) = swap(x, z); v = total(w); end"), "1 2 3; 5 7 9", "1 2 3; 5 12 21; 5 7 9")
}

// P13.1: each call has a memory of its own.
func TestMemories(t *testing.T) {
	checkSimple(t, "y = total(x) + 100 * total(10 * x);", "1001 3003 6006 10010")
	checkSimple(t, "y = count(x) + 10 * merge c (False -> count(x when False(c)) | True -> count(x when True(c)));", "11 12 23 24")
	checkPlayed(t, program(t, prelude+"node both (a) = (s) where s = total(a) + 10 * count(a); end node main (x, c) = (y) where z = x when True(c); y = both(x) + 100 * merge c (False -> 0 | True -> both(z)); end"),
		"1 2 3 4; 0 1 0 1", "11 1223 36 2650")
}

// P13.1: a callee gets what is undefined, too.
func TestUndefinedArguments(t *testing.T) {
	checkSimple(t, "y = total(pre x);", "nil nil nil nil")
	checkSimple(t, "y = count(pre x);", "1 2 3 4")
	checkSimple(t, "y = before(pre x);", "nil nil 1 2")
	checkSimple(t, "(z, y) = swap(pre x, x);", "nil 1 2 3")
	checkSimple(t, "(y, z) = swap(pre x, x);", "1 2 3 4")
	checkPlayed(t, program(t, prelude+"node by (c, a) = (b) where b = merge c (False -> count(a when False(c)) | True -> 10); end node main (x, c) = (y) where y = by(pre c, x); end"),
		"1 2 3 4; 0 0 1 0", "nil 1 2 10")
}

// P13.1: what a delay delays is played once at each instant, behind all that it depends on.
func TestDelayedCalls(t *testing.T) {
	checkSimple(t, "y = 0 fby total(y + x);", "0 1 4 11")
	checkSimple(t, "y = 0 fby (total(x) + 10 * z); z = count(y);", "0 11 23 36")
	checkSimple(t, "y = pre count(z); z = x;", "nil 1 2 3")
	checkSimple(t, "y = 0 -> pre (count(y) + total(pre (count(x) -> x)));", "0 nil nil nil")
	checkSimple(t, "y = 0 fby (0 fby count(y)) + count(y);", "0 1 3 5")
	checkSimple(t, "y = 0 fby count(0 fby total(y));", "0 1 2 3")
	checkSimple(t, "y = 0 fby total(1 fby total(y));", "0 1 1 2")
	checkSimple(t, "(a, b) = swap(0 fby total(b), x); y = b;", "0 0 0 0")
	checkSimple(t, "(a, b) = swap(1 fby total(b + a), x); y = b;", "1 2 6 15")
}

// P13.1: where the second kid of an Every is true, the callee is reset first.
func TestEvery(t *testing.T) {
	const c, d = "001011", "100100"
	checkItems(t, "y = count(x) every c;", c, d, "1 2 1 2 1 1")
	checkItems(t, "y = count(x) every d;", c, d, "1 2 3 1 2 3")
	checkItems(t, "y = total(x) every c;", c, d, "1 3 3 7 5 6")
	checkItems(t, "y = count(x) every true;", c, d, "1 1 1 1 1 1")
	checkItems(t, "y = count(x) every false;", c, d, "1 2 3 4 5 6")
	checkItems(t, "y = before(x) every c;", c, d, "nil 1 nil 3 nil nil")
	checkItems(t, "(y, z) = swap(x, 10 * count(x)) every c;", c, d, "10 20 30 40 50 60")
	checkItems(t, "y = (count(x) every c) + 10 * (count(x) every d);", c, d, "11 22 31 12 21 31")
}

// P13.1: only the memory of the callee is reset, all of it: not that of its kids, nor that of the condition.
func TestWhatIsReset(t *testing.T) {
	const c, d = "001011", "100100"
	checkItems(t, "y = total(count(x)) every c;", c, d, "1 3 3 7 5 6")
	checkItems(t, "y = total(0 fby x) every c;", c, d, "0 1 2 5 4 5")
	checkItems(t, "y = total(x -> 10) every c;", c, d, "1 11 10 20 10 10")
	checkItems(t, "y = count(x) every (count(x) = 3);", c, d, "1 2 1 2 3 4")
	checkItems(t, "y = count(x) every (false fby c);", c, d, "1 2 3 1 2 1")
	checkItems(t, "y = count(x) every (true -> false);", c, d, "1 2 3 4 5 6")
	checkItems(t, "y = 0 fby total(y + 1) every c;", c, d, "0 1 3 4 9 10")
	checkPlayed(t, program(t, prelude+"node inner (a) = (s) where s = total(a) + 10 * (0 fby a) + 100 * (1 -> 2); end "+
		"node outer (a, d) = (s) where s = 1000 * count(a) + (inner(a) every d); end node main (x, c, d) = (y) where y = outer(x, d) every c; end"),
		"1 2 3 4 5 6; 0 0 1 0 0 0; 0 0 0 0 1 0", "1101 2213 1103 2237 3105 4261")
}

// P13.1: a reset that is undefined is none, and none takes place where the call does not.
func TestUndefinedResets(t *testing.T) {
	checkItems(t, "y = count(x) every pre c;", "0010", "0000", "1 2 3 1")
	checkItems(t, "y = count(x) every (if pre pre c then true else false);", "1010", "0000", "1 2 1 2")
	const z = "z = count(x when True(c)) every (d when True(c)); y = merge c (False -> 0 | True -> z);"
	checkItems(t, z, "110111", "000001", "1 2 0 3 4 1")
	checkItems(t, z, "110111", "001000", "1 2 0 3 4 5")
	checkItems(t, z, "110111", "001100", "1 2 0 1 2 3")
	// The condition is there where the call is.
	checkItems(t, "z = count(x when True(c)) every (count(1) = 3); y = merge c (False -> 0 | True -> z);", "0101111", "0000000", "0 1 0 2 1 2 3")
	checkItems(t, "z = count(x when True(c)) every (true -> pre (1 fby x when True(c)) = 2); y = merge c (False -> 0 | True -> z);", "01011011", "00000000", "0 1 0 2 1 0 2 3")
	checkItems(t, "z = count(x when True(c)) every true; y = merge c (False -> 0 | True -> z);", "1101", "0000", "1 1 0 1")
	checkItems(t, "z = (count(x) every d) when True(c); y = merge c (False -> 0 | True -> z);", "110111", "001000", "1 2 0 2 3 4")
}

// P13.1: an instant of the callee takes place only where the call is.
func TestAbsentCalls(t *testing.T) {
	const c, d = "010110", "000000"
	checkItems(t, "z = count(1 when True(c)); y = merge c (False -> 0 | True -> z);", c, d, "0 1 0 2 3 0")
	checkItems(t, "y = merge c (False -> count(1) | True -> 10 * count(1));", c, d, "1 10 2 20 30 3")
	checkItems(t, "y = merge c (False -> 0 | True -> total(total(x when True(c))));", c, d, "0 2 0 8 19 0")
	checkItems(t, "(u, v) = swap(x when True(c), 7); y = merge c (False -> 0 | True -> 10 * u + v);", c, d, "0 72 0 74 75 0")
	checkItems(t, "(u, v) = swap(1, 2 fby 3) every (x when True(c) = 4); y = merge c (False -> 0 | True -> 10 * u + v);", c, d, "0 21 0 31 31 0")
}

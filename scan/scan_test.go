package scan_test

import (
	"slices"
	"strings"
	"testing"

	"pendule/api"
	"pendule/scan"
)

// keywords and signs are written out again from the chapter, so that a slip in the package's own lists shows.
var keywords = strings.Fields("type node where end automaton state until then if else fby pre not and or when merge match every true false")

var signs = strings.Fields("-> <= <> ( ) [ ] < = , ; : | + - * / %")

func name(s string) api.Token { return api.Token{Sort: api.TName, Text: s} }
func con(s string) api.Token  { return api.Token{Sort: api.TCon, Text: s} }
func word(s string) api.Token { return api.Token{Sort: api.TWord, Text: s} }
func sign(s string) api.Token { return api.Token{Sort: api.TSign, Text: s} }
func end() api.Token          { return api.Token{Sort: api.TEnd} }

func number(s string, n int64) api.Token { return api.Token{Sort: api.TInt, Text: s, N: n} }

func at(t api.Token, line, col int) api.Token {
	t.Line, t.Col = line, col
	return t
}

func lexFault(line, col int) api.Fault { return api.Fault{Err: api.ErrLex, A: line, B: col} }

// unplaced returns l without its positions.
func unplaced(l []api.Token) []api.Token {
	var out []api.Token
	for _, t := range l {
		out = append(out, at(t, 0, 0))
	}
	return out
}

func mustScan(t *testing.T, text string) []api.Token {
	t.Helper()
	l, f := scan.Scan(text)
	if f != (api.Fault{}) {
		t.Fatalf("Scan(%.60q): fault %v", text, f)
	}
	return l
}

// checkTokens holds the tokens of text, without positions, against want, to which the end token is added.
func checkTokens(t *testing.T, text string, want ...api.Token) {
	t.Helper()
	got := unplaced(mustScan(t, text))
	if want = append(want, end()); !slices.Equal(got, want) {
		t.Errorf("Scan(%.60q) = %v, want %v", text, got, want)
	}
}

func checkPlaced(t *testing.T, text string, want ...api.Token) {
	t.Helper()
	if got := mustScan(t, text); !slices.Equal(got, want) {
		t.Errorf("Scan(%.60q) = %v, want %v", text, got, want)
	}
}

func checkFault(t *testing.T, text string, want api.Fault) {
	t.Helper()
	l, f := scan.Scan(text)
	if f != want {
		t.Errorf("Scan(%.60q): fault %v, want %v", text, f, want)
	}
	if f.Err != api.OK && len(l) != 0 {
		t.Errorf("Scan(%.60q): %d tokens beside a fault", text, len(l))
	}
}

// P1.1: the examples of the chapter.
func TestExamples(t *testing.T) {
	checkPlaced(t, "x1 = 3 fby y -- note",
		at(name("x1"), 1, 1), at(sign("="), 1, 4), at(number("3", 3), 1, 6),
		at(word("fby"), 1, 8), at(name("y"), 1, 12), at(end(), 1, 21))
	checkFault(t, "03", lexFault(1, 1))
	checkFault(t, "a @", lexFault(1, 3))
}

// P1.1: a text without tokens has the end token alone.
func TestNoTokens(t *testing.T) {
	checkPlaced(t, "", at(end(), 1, 1))
	checkPlaced(t, " \t\r\n \n", at(end(), 3, 1))
	checkPlaced(t, "--", at(end(), 1, 3))
	checkPlaced(t, "---- @ 03 é", at(end(), 1, 13))
	checkPlaced(t, "-- a\n-- b\n", at(end(), 3, 1))
}

// P1.1: names, constructors and keywords.
func TestWords(t *testing.T) {
	for _, s := range keywords {
		checkTokens(t, s, word(s))
	}
	for _, s := range []string{"x", "z", "x_", "x__1", "aZ09_", "fbyx", "fby_", "tRue", "nodes", "en", "endend"} {
		checkTokens(t, s, name(s))
	}
	for _, s := range []string{"X", "Z", "Xy_1", "A_", "FBY", "True", "Node"} {
		checkTokens(t, s, con(s))
	}
	checkTokens(t, "x X fby\tend", name("x"), con("X"), word("fby"), word("end"))
	for _, s := range []string{"_", "_a", "_A", "_1", "__"} {
		checkFault(t, "a "+s, lexFault(1, 3))
	}
}

// P1.1: a name and a constructor have at most MaxName bytes; a longer one is a fault where it begins, and is not cut.
func TestLengths(t *testing.T) {
	long := strings.Repeat("b", api.MaxName-1)
	for _, s := range []string{"a" + long, "f" + strings.Repeat("_", api.MaxName-1)} {
		checkTokens(t, s, name(s))
		checkFault(t, s+"b", lexFault(1, 1))
		checkFault(t, "\n  "+s+"0(", lexFault(2, 3))
	}
	checkTokens(t, "A"+long, con("A"+long))
	checkFault(t, "A"+long+"b", lexFault(1, 1))
	checkFault(t, "x A"+long+"_ @", lexFault(1, 3))
	checkFault(t, strings.Repeat("fby", 9), lexFault(1, 1))
	checkFault(t, strings.Repeat("x", api.MaxBytes), lexFault(1, 1))
}

// P1.1: integer literals.
func TestLiterals(t *testing.T) {
	for s, n := range map[string]int64{
		"0": 0, "1": 1, "9": 9, "10": 10, "100": 100, "1234567890": 1234567890,
		"9223372036854775806": 1<<63 - 2, "9223372036854775807": 1<<63 - 1,
	} {
		checkTokens(t, s, number(s, n))
		checkTokens(t, "x="+s+"+"+s, name("x"), sign("="), number(s, n), sign("+"), number(s, n))
	}
	for _, s := range []string{
		"00", "01", "03", "000", "0000000000000000000000001",
		"9223372036854775808", "9300000000000000000", "10000000000000000000", "18446744073709551616", "18446744073709551617",
		"3x", "3X", "3_", "0x1", "0_", "0b1", "1e3", "1_000", "3fby", "9223372036854775807a",
		strings.Repeat("9", 1000), "1" + strings.Repeat("0", 1000),
	} {
		checkFault(t, s, lexFault(1, 1))
		checkFault(t, "a\n\t( "+s, lexFault(2, 4))
	}
	checkTokens(t, "-1", sign("-"), number("1", 1))
	checkTokens(t, "1 2", number("1", 1), number("2", 2))
	checkTokens(t, "1--2", number("1", 1))
	checkFault(t, "3.5", lexFault(1, 2))
	checkFault(t, "3é", lexFault(1, 2))
}

// P1.1: each sign alone, and the longest one where several begin.
func TestSigns(t *testing.T) {
	for _, s := range signs {
		checkTokens(t, s, sign(s))
		checkTokens(t, "a"+s+"1", name("a"), sign(s), number("1", 1))
	}
	checkTokens(t, "()[]<=,;:|+*/%", sign("("), sign(")"), sign("["), sign("]"), sign("<="), sign(","),
		sign(";"), sign(":"), sign("|"), sign("+"), sign("*"), sign("/"), sign("%"))
	checkTokens(t, "<<=", sign("<"), sign("<="))
	checkTokens(t, "<==", sign("<="), sign("="))
	checkTokens(t, "=<", sign("="), sign("<"))
	checkTokens(t, "<->", sign("<"), sign("->"))
	checkTokens(t, "->->", sign("->"), sign("->"))
	checkTokens(t, "- ->", sign("-"), sign("->"))
	checkTokens(t, "<><>", sign("<>"), sign("<>"))
	checkFault(t, ">", lexFault(1, 1))
	checkFault(t, "a >= b", lexFault(1, 3))
	checkFault(t, "<=>", lexFault(1, 3))
	checkFault(t, "->>", lexFault(1, 3))
	checkFault(t, "- >", lexFault(1, 3))
}

// P1.1: every byte alone.
func TestBytes(t *testing.T) {
	for c := range 256 {
		s := string([]byte{byte(c)})
		switch {
		case strings.Contains(" \t\r\n", s):
			checkTokens(t, s)
		case 'a' <= c && c <= 'z':
			checkTokens(t, s, name(s))
		case 'A' <= c && c <= 'Z':
			checkTokens(t, s, con(s))
		case '0' <= c && c <= '9':
			checkTokens(t, s, number(s, int64(c-'0')))
		case slices.Contains(signs, s):
			checkTokens(t, s, sign(s))
		default:
			checkFault(t, s, lexFault(1, 1))
			checkFault(t, "A1 "+s, lexFault(1, 4))
			checkFault(t, "("+s, lexFault(1, 2))
		}
	}
}

// P1.1: comments begin with two minus signs wherever these stand, and end ahead of byte 10 only.
func TestComments(t *testing.T) {
	checkTokens(t, "a--b\nc", name("a"), name("c"))
	checkTokens(t, "a -- b -- c\n-- d\n--\nc", name("a"), name("c"))
	checkTokens(t, "a -- b\r c", name("a"))
	checkTokens(t, "a --> b\nc", name("a"), name("c"))
	checkTokens(t, "a <--> b\nc", name("a"), sign("<"), name("c"))
	checkTokens(t, "a - - b", name("a"), sign("-"), sign("-"), name("b"))
	checkTokens(t, "a ->-- b\n-c", name("a"), sign("->"), sign("-"), name("c"))
	checkTokens(t, "--\x00\xff@\n1", number("1", 1))
}

// P1.1: lines end after byte 10 only, and every byte is a column.
func TestPositions(t *testing.T) {
	checkPlaced(t, "a\tb\r\n\n  c-- é\nd\n",
		at(name("a"), 1, 1), at(name("b"), 1, 3), at(name("c"), 3, 3), at(name("d"), 4, 1), at(end(), 5, 1))
	checkPlaced(t, "\r\ra", at(name("a"), 1, 3), at(end(), 1, 4))
	checkPlaced(t, "a  ", at(name("a"), 1, 1), at(end(), 1, 4))
	checkPlaced(t, "a --é", at(name("a"), 1, 1), at(end(), 1, 7))
	checkPlaced(t, "a<=12", at(name("a"), 1, 1), at(sign("<="), 1, 2), at(number("12", 12), 1, 4), at(end(), 1, 6))
}

// P1.1: the first fault is the one that is told, and too long a text is told ahead of it.
func TestFaults(t *testing.T) {
	checkFault(t, "a\n03 @", lexFault(2, 1))
	checkFault(t, "a\n@ 03", lexFault(2, 1))
	checkFault(t, "-- @\n @", lexFault(2, 2))
	checkFault(t, "a\x00", lexFault(1, 2))
	checkFault(t, "x\v", lexFault(1, 2))
	checkFault(t, "x\f", lexFault(1, 2))
	checkFault(t, "\u00a0", lexFault(1, 1))
	checkFault(t, "é", lexFault(1, 1))
	checkFault(t, "aé", lexFault(1, 2))
	tooLong := api.Fault{Err: api.ErrBound}
	checkFault(t, strings.Repeat(" ", api.MaxBytes), api.Fault{})
	checkFault(t, strings.Repeat(" ", api.MaxBytes+1), tooLong)
	checkFault(t, strings.Repeat("(", api.MaxBytes), api.Fault{})
	checkFault(t, strings.Repeat("@", api.MaxBytes), lexFault(1, 1))
	checkFault(t, strings.Repeat("@", api.MaxBytes+1), tooLong)
	checkFault(t, strings.Repeat(" ", api.MaxBytes-1)+"@", lexFault(1, api.MaxBytes))
}

// P1.1: IsName, IsCon and IsWord.
func TestIs(t *testing.T) {
	long := strings.Repeat("x", api.MaxName-1)
	for s, want := range map[string][3]bool{ // name, constructor, keyword
		"x": {true}, "z9_Z": {true}, "fbyx": {true}, "m": {true}, "x" + long: {true},
		"X": {false, true}, "Xy_1": {false, true}, "True": {false, true}, "X" + long: {false, true},
		"x" + long + "x": {}, "X" + long + "x": {},
		"": {}, "_": {}, "_x": {}, "_X": {}, "0": {}, "1x": {}, "x y": {}, " x": {}, "x ": {}, "x\n": {}, "x-": {},
		"X.": {}, "é": {}, "xé": {}, "x\x00": {}, "x\xff": {}, "<=": {}, "fby fby": {}, "Fby ": {},
	} {
		if got := [3]bool{scan.IsName(s), scan.IsCon(s), scan.IsWord(s)}; got != want {
			t.Errorf("%q: name, constructor, keyword are %v, want %v", s, got, want)
		}
	}
	for _, s := range keywords {
		if scan.IsName(s) || scan.IsCon(s) || !scan.IsWord(s) {
			t.Errorf("%q is not taken for a keyword alone", s)
		}
	}
}

// P1.1: Spell puts one space between any two Texts, whatever these are, and leaves its argument as it was.
func TestSpell(t *testing.T) {
	for want, l := range map[string][]api.Token{
		"":          nil,
		"a":         {name("a")},
		"a <= 1":    {name("a"), sign("<="), number("1", 1)},
		"a ":        {name("a"), end()},
		"  ":        {{}, {}, {}},
		"x y @ \n ": {{Text: "x y"}, {Text: "@"}, {Text: "\n"}, {}},
	} {
		before := slices.Clone(l)
		if got := scan.Spell(l); got != want {
			t.Errorf("Spell(%v) = %q, want %q", l, got, want)
		}
		if !slices.Equal(l, before) {
			t.Errorf("Spell changed its argument to %v", l)
		}
	}
	if got := scan.Spell(mustScan(t, "y=0 fby(y+x);-- note")); got != "y = 0 fby ( y + x ) ; " {
		t.Errorf("spelt %q", got)
	}
}

package word_test

import (
	"math"
	"slices"
	"strings"
	"testing"

	"pendule/api"
	"pendule/word"
)

// P4.1: the examples of the chapter.
func TestExamples(t *testing.T) {
	checkBin(t, "/", -7, 2, -3)
	checkBin(t, "%", -7, 2, -1)
	checkBin(t, "/", 5, 0, 0)
	checkBin(t, "/", least, -1, 0)
	checkBin(t, "%", least, -1, 0)
}

// P4.1: the unary operators.
func TestUnaries(t *testing.T) {
	for a, want := range map[int64]int64{0: 0, 1: -1, -1: 1, 7: -7, most: least + 1, least + 1: most, least: least} {
		checkUn(t, "-", a, want)
	}
	for a, want := range map[int64]int64{0: 1, 1: 0, 2: 0, -1: 0, 256: 0, 1 << 32: 0, most: 0, least: 0} {
		checkUn(t, "not", a, want)
	}
}

// P4.1: sums, differences and products wrap around.
func TestSumsAndProducts(t *testing.T) {
	checkBin(t, "+", 2, 3, 5)
	checkBin(t, "+", most, 1, least)
	checkBin(t, "+", least, -1, most)
	checkBin(t, "+", least, least, 0)
	checkBin(t, "-", 2, 3, -1)
	checkBin(t, "-", least, 1, most)
	checkBin(t, "-", 0, least, least)
	checkBin(t, "-", most, -1, least)
	checkBin(t, "*", -4, 3, -12)
	checkBin(t, "*", most, 2, -2)
	checkBin(t, "*", least, -1, least)
	checkBin(t, "*", 1<<32, 1<<32, 0)
	checkBin(t, "*", 1<<32+1, 1<<32+1, 1<<33+1)
}

// P4.1: quotients are truncated towards 0, remainders have the sign of the first operand, and both are 0 where there is no quotient of 64 bits.
func TestQuotients(t *testing.T) {
	for _, c := range [][4]int64{
		{7, 2, 3, 1}, {-7, 2, -3, -1}, {7, -2, -3, 1}, {-7, -2, 3, -1},
		{6, 3, 2, 0}, {-6, 3, -2, 0}, {1, 2, 0, 1}, {-1, 2, 0, -1}, {0, 5, 0, 0}, {0, -5, 0, 0},
		{5, 0, 0, 0}, {-5, 0, 0, 0}, {0, 0, 0, 0}, {most, 0, 0, 0}, {least, 0, 0, 0},
		{least, -1, 0, 0}, {least, 1, least, 0}, {least, 2, -1 << 62, 0}, {least, -2, 1 << 62, 0}, {least, least, 1, 0},
		{least, most, -1, -1}, {most, least, 0, most}, {most, -1, -most, 0}, {least + 1, -1, most, 0},
	} {
		checkBin(t, "/", c[0], c[1], c[2])
		checkBin(t, "%", c[0], c[1], c[3])
	}
}

// P4.1: comparisons are those of integers with a sign, of all 64 bits.
func TestComparisons(t *testing.T) {
	for _, c := range [][2]int64{{0, 1}, {-1, 0}, {-1, 1}, {-2, -1}, {least, most}, {least, 0}, {0, most}, {least, least + 1}, {most - 1, most}, {0, 1 << 32}, {1, 1<<32 + 1}} {
		a, b := c[0], c[1]
		checkBin(t, "<", a, b, 1)
		checkBin(t, "<", b, a, 0)
		checkBin(t, "<=", a, b, 1)
		checkBin(t, "<=", b, a, 0)
		checkBin(t, "=", a, b, 0)
		checkBin(t, "=", b, a, 0)
		checkBin(t, "<>", a, b, 1)
		checkBin(t, "<>", b, a, 1)
	}
	for _, a := range edges() {
		checkBin(t, "<", a, a, 0)
		checkBin(t, "<=", a, a, 1)
		checkBin(t, "=", a, a, 1)
		checkBin(t, "<>", a, a, 0)
		for bit := range 64 {
			checkBin(t, "=", a, a^(1<<bit), 0)
			checkBin(t, "<>", a, a^(1<<bit), 1)
		}
	}
}

// P4.1: any number but 0 counts as true, and what comes out is 0 or 1.
func TestBooleans(t *testing.T) {
	checkBin(t, "and", 0, 0, 0)
	checkBin(t, "or", 0, 0, 0)
	for _, a := range edges() {
		if a == 0 {
			continue
		}
		checkBin(t, "and", a, 0, 0)
		checkBin(t, "and", 0, a, 0)
		checkBin(t, "or", a, 0, 1)
		checkBin(t, "or", 0, a, 1)
		for _, b := range []int64{1, 2, 4, -1, ^a, least} {
			if b != 0 {
				checkBin(t, "and", a, b, 1)
				checkBin(t, "or", a, b, 1)
			}
		}
	}
}

// strangers are no operators: signs and words of the language, signs of other languages, and operators with something beside them.
var strangers = []string{
	"", " ", "->", "(", ")", "[", "]", ",", ";", ":", "|", "fby", "pre", "if", "when", "merge", "every", "true", "False", "x", "0",
	">", ">=", "==", "!=", "!", "~", "^", "&", "&&", "||", "xor", "mod", "div", "<<", ">>", "**", "=<", "><", "--", "++",
	"+ ", " +", "- ", "not ", " not", "nota", "no", "an", "o", "And", "OR", "Not", "NOT", "and\x00", "\x00", "−", "÷", "×", "≤", "\xff", "¬",
}

// P4.1: there are no other operators than those of the table, and a unary one is no binary one.
func TestNoOperator(t *testing.T) {
	no := append(slices.Clone(strangers), strings.Repeat("-", 1<<16), strings.Repeat("not", 100))
	for _, a := range []int64{0, 1, -1, 7, least, most} {
		for _, s := range no {
			checkNoUn(t, s, a)
			checkNoBin(t, s, a, 3)
			checkNoBin(t, s, 3, a)
		}
		for _, s := range binaries {
			if s != "-" {
				checkNoUn(t, s, a)
			}
		}
		checkNoBin(t, "not", a, 1)
		checkNoBin(t, "not", 1, a)
	}
	for _, s := range no {
		checkTakes(t, s, 1, 0, 0, false)
		checkTakes(t, s, 2, 0, 0, false)
	}
}

// P4.1: the types of the operators.
func TestTakes(t *testing.T) {
	checkTakes(t, "-", 1, api.TyInt, api.TyInt, true)
	checkTakes(t, "not", 1, api.TyBool, api.TyBool, true)
	for _, s := range []string{"+", "-", "*", "/", "%"} {
		checkTakes(t, s, 2, api.TyInt, api.TyInt, true)
	}
	for _, s := range []string{"<", "<="} {
		checkTakes(t, s, 2, api.TyInt, api.TyBool, true)
	}
	for _, s := range []string{"=", "<>"} {
		checkTakes(t, s, 2, 0, api.TyBool, true)
	}
	for _, s := range []string{"and", "or"} {
		checkTakes(t, s, 2, api.TyBool, api.TyBool, true)
	}
}

// P4.1: an operator has its own number of operands and no other.
func TestTakesOtherNumbers(t *testing.T) {
	checkTakes(t, "not", 2, 0, 0, false)
	for _, s := range binaries {
		if s != "-" {
			checkTakes(t, s, 1, 0, 0, false)
		}
	}
	for _, n := range []int{0, -1, -2, 3, 4, 257, 258, 1<<32 + 1, 1<<32 + 2, math.MinInt, math.MinInt + 1, math.MaxInt} {
		for _, s := range slices.Concat(unaries, binaries, strangers) {
			checkTakes(t, s, n, 0, 0, false)
		}
	}
}

// P4.1: the functions agree on which operators there are, for all names of up to two bytes and all of three small letters.
func TestOperatorsOfShortNames(t *testing.T) {
	check := func(s string) {
		_, err1 := word.Un(s, 1)
		_, err2 := word.Bin(s, 1, 1)
		_, _, ok1 := word.Takes(s, 1)
		_, _, ok2 := word.Takes(s, 2)
		one, two := slices.Contains(unaries, s), slices.Contains(binaries, s)
		if ok1 != one || (err1 == api.OK) != one || ok2 != two || (err2 == api.OK) != two {
			t.Fatalf("%q: Takes %t and %t, errors %d and %d, want %t and %t", s, ok1, ok2, err1, err2, one, two)
		}
	}
	check("")
	for a := range 256 {
		check(string([]byte{byte(a)}))
		for b := range 256 {
			check(string([]byte{byte(a), byte(b)}))
		}
	}
	for n := range 26 * 26 * 26 {
		check(string([]byte{byte('a' + n/676), byte('a' + n/26%26), byte('a' + n%26)}))
	}
}

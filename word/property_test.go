package word_test

import (
	"math/big"
	"testing"
)

// P4.1, P4.2: every binary operator is what the table says by integers without bounds; sums, differences and products are theirs modulo 2^64.
func TestMeanings(t *testing.T) {
	for _, p := range pairs() {
		for _, s := range binaries {
			if got, want := bin(t, s, p[0], p[1]), meaning(s, p[0], p[1]); got != want {
				t.Fatalf("Bin(%q, %d, %d) = %d, want %d", s, p[0], p[1], got, want)
			}
		}
	}
}

// P4.1: a negation is 0 minus the operand, modulo 2^64, and not tells 0 from all other numbers.
func TestUnaryMeanings(t *testing.T) {
	for _, p := range pairs() {
		a := p[0]
		checkUn(t, "-", a, wrapped(new(big.Int).Neg(whole(a))))
		checkUn(t, "-", a, bin(t, "-", 0, a))
		checkUn(t, "not", a, truth(a == 0))
		checkUn(t, "not", a, bin(t, "=", a, 0))
	}
}

// P4.2: the quotient times the second operand plus the remainder is the first operand, and the remainder is nearer to 0 than the second operand, on the side of the first one.
func TestQuotientAndRemainder(t *testing.T) {
	for _, p := range pairs() {
		a, b := p[0], p[1]
		q, r := bin(t, "/", a, b), bin(t, "%", a, b)
		if b == 0 || a == least && b == -1 {
			if q != 0 || r != 0 {
				t.Fatalf("%d / %d = %d, remainder %d, want 0 and 0", a, b, q, r)
			}
			continue
		}
		back := new(big.Int).Mul(whole(q), whole(b))
		if back.Add(back, whole(r)).Cmp(whole(a)) != 0 {
			t.Fatalf("%d / %d = %d, remainder %d, which makes %v", a, b, q, r, back)
		}
		if whole(r).CmpAbs(whole(b)) >= 0 || r != 0 && (r < 0) != (a < 0) {
			t.Fatalf("%d %% %d = %d", a, b, r)
		}
	}
}

// P4.2: of a < b, a = b and b < a exactly one holds; the other comparisons follow from these.
func TestExactlyOneComparison(t *testing.T) {
	for _, p := range pairs() {
		a, b := p[0], p[1]
		below, same, above := bin(t, "<", a, b), bin(t, "=", a, b), bin(t, "<", b, a)
		if below+same+above != 1 || below < 0 || same < 0 || above < 0 {
			t.Fatalf("%d and %d: <, = and > are %d, %d and %d", a, b, below, same, above)
		}
		checkBin(t, "<=", a, b, below+same)
		checkBin(t, "<>", a, b, below+above)
	}
}

package word_test

import (
	"math"
	"math/big"
	"math/rand"
	"testing"

	"pendule/api"
	"pendule/word"
)

const least, most = math.MinInt64, math.MaxInt64

// unaries and binaries are written out again from the chapter, so that a slip in the package's own lists shows.
var (
	unaries  = []string{"-", "not"}
	binaries = []string{"+", "-", "*", "/", "%", "<", "<=", "=", "<>", "and", "or"}
)

// edges are the numbers at which an operator may go wrong: around 0, the ends, the powers of two that narrower integers end at, and the roots of the ends.
func edges() []int64 {
	l := []int64{0, least, least + 1, least + 2, most, most - 1, most - 2}
	for _, n := range []int64{1, 2, 3, 5, 7, 10, 64, 255, 256, 1<<31 - 1, 1 << 31, 1<<32 - 1, 1 << 32, 1<<32 + 1, 1 << 53, 3037000499, 3037000500, 1 << 62} {
		l = append(l, n, -n)
	}
	return l
}

// draw returns a number, drawn by r, of any length.
func draw(r *rand.Rand) int64 {
	return int64(r.Uint64()) >> r.Intn(64)
}

// pairs are all pairs of edges, pairs of drawn numbers, and drawn numbers beside edges.
func pairs() [][2]int64 {
	var l [][2]int64
	r := rand.New(rand.NewSource(1))
	all := edges()
	for _, a := range all {
		for _, b := range all {
			l = append(l, [2]int64{a, b})
		}
		for range 50 {
			l = append(l, [2]int64{a, draw(r)}, [2]int64{draw(r), a})
		}
	}
	for range 20000 {
		a := draw(r)
		l = append(l, [2]int64{a, draw(r)}, [2]int64{a, a})
	}
	return l
}

// whole returns a as an integer without bounds.
func whole(a int64) *big.Int { return big.NewInt(a) }

// wrapped returns the number of 64 bits that is z modulo 2^64.
func wrapped(z *big.Int) int64 {
	m := new(big.Int).Lsh(big.NewInt(1), 64)
	return int64(new(big.Int).Mod(z, m).Uint64())
}

func truth(b bool) int64 {
	if b {
		return 1
	}
	return 0
}

// meaning returns what the chapter's table says of a binary operator, computed by integers without bounds.
func meaning(name string, a, b int64) int64 {
	x, y, z := whole(a), whole(b), new(big.Int)
	switch name {
	case "+":
		return wrapped(z.Add(x, y))
	case "-":
		return wrapped(z.Sub(x, y))
	case "*":
		return wrapped(z.Mul(x, y))
	case "/", "%":
		if b == 0 || a == least && b == -1 {
			return 0
		}
		if name == "/" {
			return z.Quo(x, y).Int64()
		}
		return z.Rem(x, y).Int64()
	case "<":
		return truth(x.Cmp(y) < 0)
	case "<=":
		return truth(x.Cmp(y) <= 0)
	case "=":
		return truth(x.Cmp(y) == 0)
	case "<>":
		return truth(x.Cmp(y) != 0)
	case "and":
		return truth(x.Sign() != 0 && y.Sign() != 0)
	case "or":
		return truth(x.Sign() != 0 || y.Sign() != 0)
	}
	panic("no operator " + name)
}

// un applies an operator that there is.
func un(t *testing.T, name string, a int64) int64 {
	t.Helper()
	n, err := word.Un(name, a)
	if err != api.OK {
		t.Fatalf("Un(%q, %d): error %d", name, a, err)
	}
	return n
}

// bin applies an operator that there is.
func bin(t *testing.T, name string, a, b int64) int64 {
	t.Helper()
	n, err := word.Bin(name, a, b)
	if err != api.OK {
		t.Fatalf("Bin(%q, %d, %d): error %d", name, a, b, err)
	}
	return n
}

func checkUn(t *testing.T, name string, a, want int64) {
	t.Helper()
	if got := un(t, name, a); got != want {
		t.Errorf("Un(%q, %d) = %d, want %d", name, a, got, want)
	}
}

func checkBin(t *testing.T, name string, a, b, want int64) {
	t.Helper()
	if got := bin(t, name, a, b); got != want {
		t.Errorf("Bin(%q, %d, %d) = %d, want %d", name, a, b, got, want)
	}
}

func checkNoUn(t *testing.T, name string, a int64) {
	t.Helper()
	if n, err := word.Un(name, a); n != 0 || err != api.ErrField {
		t.Errorf("Un(%q, %d) = %d, error %d, want 0, error %d", name, a, n, err, api.ErrField)
	}
}

func checkNoBin(t *testing.T, name string, a, b int64) {
	t.Helper()
	if n, err := word.Bin(name, a, b); n != 0 || err != api.ErrField {
		t.Errorf("Bin(%q, %d, %d) = %d, error %d, want 0, error %d", name, a, b, n, err, api.ErrField)
	}
}

func checkTakes(t *testing.T, name string, n int, operand, result api.Type, ok bool) {
	t.Helper()
	o, r, k := word.Takes(name, n)
	if o != operand || r != result || k != ok {
		t.Errorf("Takes(%q, %d) = %d, %d, %t, want %d, %d, %t", name, n, o, r, k, operand, result, ok)
	}
}

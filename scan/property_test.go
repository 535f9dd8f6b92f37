package scan_test

import (
	"math/rand"
	"slices"
	"strings"
	"testing"

	"pendule/api"
	"pendule/scan"
)

// vocabulary has tokens of every sort.
func vocabulary() []api.Token {
	l := []api.Token{
		name("x"), name("x_1"), name("fbyx"), name("a23456789012345678901234"),
		con("X"), con("True"), con("A23456789012345678901234"),
		number("0", 0), number("7", 7), number("120", 120), number("9223372036854775807", 1<<63-1),
	}
	for _, s := range keywords {
		l = append(l, word(s))
	}
	for _, s := range signs {
		l = append(l, sign(s))
	}
	return l
}

// gaps are what may stand between any two tokens. None begins with a comment: behind a minus sign, that would be a longer comment.
var gaps = []string{" ", "\n", "\t", "\r\n", "  \n ", " -- 03 @ é\n", "\n--\n-- fby\n", " ---\n\t"}

// sample returns n tokens, drawn by r, and a text of them.
func sample(r *rand.Rand, n int) ([]api.Token, string) {
	all := vocabulary()
	var l []api.Token
	var b strings.Builder
	for range n {
		t := all[r.Intn(len(all))]
		l = append(l, t)
		b.WriteString(gaps[r.Intn(len(gaps))])
		b.WriteString(t.Text)
	}
	b.WriteString([]string{"", "\n", " -- the end"}[r.Intn(3)])
	return append(l, end()), b.String()
}

// noise returns n bytes, drawn by r from those that matter to a scanner.
func noise(r *rand.Rand, n int) string {
	const bytes = "aby_XZ0019<>=-->()[],;:|+*/% \t\r\n--@\x00\xc3\xa9"
	b := make([]byte, n)
	for i := range b {
		b[i] = bytes[r.Intn(len(bytes))]
	}
	return string(b)
}

// texts are valid texts of all kinds: written, drawn from the vocabulary, and what of noise happens to be valid.
func texts() []string {
	l := []string{
		"", " ", "\n", "--", "x", "x\n", "a--b\nc", "<=<><->", "-\n-",
		"node f(x)=(y) where\n  y=0 fby y+x; -- a sum\nend\n",
		"type t=A|B; node f[g](x,c)=(y) where y=merge c(A->g(x)when A(c)|B->(-1)); end",
		strings.Repeat("a ", api.MaxBytes/2),
	}
	r := rand.New(rand.NewSource(1))
	for range 500 {
		_, s := sample(r, r.Intn(40))
		l = append(l, s)
		if s := noise(r, r.Intn(8)); valid(s) {
			l = append(l, s)
		}
	}
	return l
}

func valid(text string) bool {
	_, f := scan.Scan(text)
	return f.Err == api.OK
}

// P1.1: a text that is made of known tokens has these tokens.
func TestSamples(t *testing.T) {
	r := rand.New(rand.NewSource(2))
	for range 1000 {
		want, s := sample(r, r.Intn(60))
		if got := unplaced(mustScan(t, s)); !slices.Equal(got, want) {
			t.Fatalf("Scan(%q) = %v, want %v", s, got, want)
		}
	}
}

// P1.1: of a text with a fault, what stands ahead of the fault is valid, and nothing else is told.
func TestNoise(t *testing.T) {
	r := rand.New(rand.NewSource(3))
	for range 20000 {
		s := noise(r, r.Intn(12))
		l, f := scan.Scan(s)
		if f == (api.Fault{}) {
			if n := len(l); n == 0 || l[n-1].Sort != api.TEnd {
				t.Fatalf("Scan(%q) = %v", s, l)
			}
			continue
		}
		i := offset(s, f.A, f.B)
		if f.Err != api.ErrLex || len(l) != 0 || i < 0 || i >= len(s) || !valid(s[:i]) {
			t.Fatalf("Scan(%q) = %v, %v", s, l, f)
		}
		if g := scanFault(s[i:]); g != lexFault(1, 1) {
			t.Fatalf("Scan(%q): fault %v, but none at the start of %q (%v)", s, f, s[i:], g)
		}
	}
}

func scanFault(text string) api.Fault {
	_, f := scan.Scan(text)
	return f
}

// P1.2: what Spell returns for the tokens of a text has the same tokens.
func TestSpellScansBack(t *testing.T) {
	for _, s := range texts() {
		l := mustScan(t, s)
		again := scan.Spell(l)
		if got := unplaced(mustScan(t, again)); !slices.Equal(got, unplaced(l)) {
			t.Fatalf("%.200q is spelt %.200q, which has the tokens %v", s, again, got)
		}
	}
}

// P1.2: white space and comments between tokens change nothing but positions.
func TestGaps(t *testing.T) {
	r := rand.New(rand.NewSource(4))
	for _, s := range texts() {
		if len(s) > 4096 { // the gaps would make it too long a text
			continue
		}
		l := mustScan(t, s)
		var b strings.Builder
		done := 0
		for _, x := range l {
			i := offset(s, x.Line, x.Col)
			b.WriteString(s[done:i])
			b.WriteString(gaps[r.Intn(len(gaps))])
			done = i
		}
		if got := unplaced(mustScan(t, b.String())); !slices.Equal(got, unplaced(l)) {
			t.Fatalf("%q with gaps is %q, which has the tokens %v", s, b.String(), got)
		}
	}
}

// P1.3: each Text stands at its position, positions increase, and the end token is just behind the last byte.
func TestTextsStandAtTheirPositions(t *testing.T) {
	for _, s := range texts() {
		last := -1
		l := mustScan(t, s)
		for _, x := range l {
			i := offset(s, x.Line, x.Col)
			if i <= last || !strings.HasPrefix(s[i:], x.Text) {
				t.Fatalf("in %.200q, %v stands at byte %d, the one before it at %d", s, x, i, last)
			}
			last = i
		}
		if last != len(s) || l[len(l)-1].Sort != api.TEnd {
			t.Fatalf("in %.200q, the last token is at byte %d of %d", s, last, len(s))
		}
	}
}

// offset returns the index in text of the position, or -1.
func offset(text string, line, col int) int {
	i := 0
	for n := 1; n < line; n++ {
		k := strings.IndexByte(text[i:], '\n')
		if k < 0 {
			return -1
		}
		i += k + 1
	}
	if i += col - 1; col < 1 || i > len(text) {
		return -1
	}
	return i
}

package knot_test

import (
	"math"
	"testing"

	"pendule/knot"
)

// strangers are no elements of a knot with fewer than 64 elements: numbers next to 0, and those that narrower integers would take for an element.
var strangers = []int{-1, -2, -64, 64, 255, 256, -256, 1 << 16, 1 << 31, -1 << 31, 1<<32 - 1, 1 << 32, 1<<32 + 1, -1 << 32, 1 << 62, math.MaxInt - 1, math.MaxInt, math.MinInt, math.MinInt + 1}

// noMarks are numbers that are not above 0.
var noMarks = []int{0, -1, -2, -7, -1 << 31, -1<<32 + 7, -1 << 62, math.MinInt, math.MinInt + 1}

// model is a knot by the chapter's words: for each element the name of its class, and for each name the mark, where there is one.
type model struct {
	class []int
	marks map[int]int
}

func newModel() *model { return &model{marks: map[int]int{}} }

func (m *model) has(a int) bool { return 0 <= a && a < len(m.class) }

func (m *model) add() int {
	m.class = append(m.class, len(m.class))
	return len(m.class) - 1
}

func (m *model) mark(a, n int) bool {
	if !m.has(a) || n <= 0 {
		return false
	}
	if old, ok := m.marks[m.class[a]]; ok {
		return old == n
	}
	m.marks[m.class[a]] = n
	return true
}

func (m *model) tie(a, b int) bool {
	if !m.has(a) || !m.has(b) {
		return false
	}
	from, to := m.class[a], m.class[b]
	old, ok := m.marks[from]
	if ok && !m.mark(b, old) {
		return false
	}
	for i, c := range m.class {
		if c == from {
			m.class[i] = to
		}
	}
	return true
}

func (m *model) of(a int) int {
	if !m.has(a) {
		return 0
	}
	return m.marks[m.class[a]]
}

func (m *model) alike(a, b int) bool {
	return m.has(a) && m.has(b) && m.class[a] == m.class[b]
}

func (m *model) least(a int) int {
	for b := range m.class {
		if m.alike(a, b) {
			return b
		}
	}
	return -1
}

// checkKnot holds what k tells of each element, of each pair and of the numbers next to the elements against what m tells.
func checkKnot(t *testing.T, k *knot.Knot, m *model) {
	t.Helper()
	n := len(m.class)
	checkLen(t, k, n)
	for a := -1; a <= n; a++ {
		checkOf(t, k, a, m.of(a))
		checkLeast(t, k, a, m.least(a))
		for b := -1; b <= n; b++ {
			checkAlike(t, k, a, b, m.alike(a, b))
		}
	}
}

func checkAdd(t *testing.T, k *knot.Knot, want int) {
	t.Helper()
	if got := k.Add(); got != want {
		t.Errorf("Add() = %d, want %d", got, want)
	}
}

func checkMark(t *testing.T, k *knot.Knot, a, m int, want bool) {
	t.Helper()
	if got := k.Mark(a, m); got != want {
		t.Errorf("Mark(%d, %d) = %t, want %t", a, m, got, want)
	}
}

func checkTie(t *testing.T, k *knot.Knot, a, b int, want bool) {
	t.Helper()
	if got := k.Tie(a, b); got != want {
		t.Errorf("Tie(%d, %d) = %t, want %t", a, b, got, want)
	}
}

func checkOf(t *testing.T, k *knot.Knot, a, want int) {
	t.Helper()
	if got := k.Of(a); got != want {
		t.Errorf("Of(%d) = %d, want %d", a, got, want)
	}
}

func checkLeast(t *testing.T, k *knot.Knot, a, want int) {
	t.Helper()
	if got := k.Least(a); got != want {
		t.Errorf("Least(%d) = %d, want %d", a, got, want)
	}
}

func checkAlike(t *testing.T, k *knot.Knot, a, b int, want bool) {
	t.Helper()
	if got := k.Alike(a, b); got != want {
		t.Errorf("Alike(%d, %d) = %t, want %t", a, b, got, want)
	}
}

func checkLen(t *testing.T, k *knot.Knot, want int) {
	t.Helper()
	if got := k.Len(); got != want {
		t.Errorf("Len() = %d, want %d", got, want)
	}
}

// checkClasses holds the classes of k, and no others, against lists of elements that begin with the least one, and each class's mark.
func checkClasses(t *testing.T, k *knot.Knot, classes [][]int, marks ...int) {
	t.Helper()
	n := 0
	for i, c := range classes {
		n += len(c)
		for _, a := range c {
			checkLeast(t, k, a, c[0])
			checkOf(t, k, a, marks[i])
			for j, d := range classes {
				for _, b := range d {
					checkAlike(t, k, a, b, i == j)
				}
			}
		}
	}
	checkLen(t, k, n)
}

// elements returns a knot with n elements.
func elements(n int) *knot.Knot {
	k := knot.New()
	for range n {
		k.Add()
	}
	return k
}

// tied returns a knot with n elements, of which these pairs are tied.
func tied(t *testing.T, n int, pairs ...[2]int) *knot.Knot {
	t.Helper()
	k := elements(n)
	for _, p := range pairs {
		checkTie(t, k, p[0], p[1], true)
	}
	return k
}

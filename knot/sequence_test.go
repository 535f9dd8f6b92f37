package knot_test

import (
	"math"
	"math/rand"
	"testing"

	"pendule/knot"
)

// The kinds of calls that change a knot.
const (
	add = iota
	mark
	tie
)

// call is a call that changes a knot: a is an element, and b an element or a mark.
type call struct{ kind, a, b int }

// do makes the call c on k, and returns whether it was not refused.
func (c call) do(k *knot.Knot) bool {
	switch c.kind {
	case add:
		k.Add()
		return true
	case mark:
		return k.Mark(c.a, c.b)
	}
	return k.Tie(c.a, c.b)
}

// doBoth makes the call c on k and on m, and holds the answers against each other.
func (c call) doBoth(t *testing.T, k *knot.Knot, m *model) bool {
	t.Helper()
	switch c.kind {
	case add:
		checkAdd(t, k, m.add())
		return true
	case mark:
		want := m.mark(c.a, c.b)
		checkMark(t, k, c.a, c.b, want)
		return want
	}
	want := m.tie(c.a, c.b)
	checkTie(t, k, c.a, c.b, want)
	return want
}

// every calls f with each list of n of these calls. The list is f's until it returns.
func every(n int, calls []call, f func([]call)) {
	l := make([]call, n)
	var fill func(int)
	fill = func(i int) {
		if i == n {
			f(l)
			return
		}
		for _, c := range calls {
			l[i] = c
			fill(i + 1)
		}
	}
	fill(0)
}

// changes are the ties of n elements, and their marks with 1 and 2.
func changes(n int) []call {
	var l []call
	for a := range n {
		l = append(l, call{mark, a, 1}, call{mark, a, 2})
		for b := range n {
			l = append(l, call{tie, a, b})
		}
	}
	return l
}

// one returns one of the elements of l.
func one[T any](r *rand.Rand, l []T) T { return l[r.Intn(len(l))] }

// drawCall returns a call on a knot of n elements, with marks up to most; now and then it names what there is not.
func drawCall(r *rand.Rand, n, most int) call {
	element := func() int {
		if n == 0 || r.Intn(20) == 0 {
			return one(r, append([]int{n, n + 1}, strangers...))
		}
		return r.Intn(n)
	}
	switch r.Intn(12) {
	case 0:
		return call{kind: add}
	case 1, 2:
		return call{mark, element(), 1 + r.Intn(most)}
	case 3:
		return call{mark, element(), one(r, append([]int{1, 1 << 32, math.MaxInt}, noMarks...))}
	}
	return call{tie, element(), element()}
}

// draw makes drawn calls on a new knot and on a model of it, and calls after after each of them.
func draw(t *testing.T, r *rand.Rand, after func(c call, done bool, k *knot.Knot, m *model)) {
	t.Helper()
	k, m := knot.New(), newModel()
	most := 1 + r.Intn(6)
	for range r.Intn(12) {
		call{kind: add}.doBoth(t, k, m)
	}
	for range r.Intn(60) {
		c := drawCall(r, len(m.class), most)
		after(c, c.doBoth(t, k, m), k, m)
	}
}

// drawnWhole returns the number of elements of a knot, ties and marks of these of which none is refused in any order, and the knot's model: ties stay within classes that are drawn first, each of which has one mark for all its elements.
func drawnWhole(r *rand.Rand) (int, []call, *model) {
	n := 1 + r.Intn(30)
	classes := 1 + r.Intn(n)
	class, of, m := make([]int, n), make([]int, classes), newModel()
	for a := range n {
		m.add()
		class[a] = r.Intn(classes)
	}
	for i := range of {
		of[i] = 1 + r.Intn(3)
	}
	var l []call
	for range r.Intn(4 * n) {
		a, b := r.Intn(n), r.Intn(n)
		if r.Intn(5) == 0 {
			l = append(l, call{mark, a, of[class[a]]})
			m.mark(a, of[class[a]])
		} else if class[a] == class[b] {
			l = append(l, call{tie, a, b})
			m.tie(a, b)
		}
	}
	return n, l, m
}

package knot_test

import (
	"math"
	"testing"

	"pendule/knot"
)

// P7.1: the example of the chapter.
func TestExample(t *testing.T) {
	k := knot.New()
	for n := range 3 {
		checkAdd(t, k, n)
	}
	checkTie(t, k, 0, 2, true)
	checkMark(t, k, 2, 7, true)
	checkOf(t, k, 0, 7)
	checkLeast(t, k, 2, 0)
	checkMark(t, k, 1, 8, true)
	checkTie(t, k, 1, 0, false)
	checkClasses(t, k, [][]int{{0, 2}, {1}}, 7, 8)
}

// P7.1: a new knot has no elements, so every call that names one is refused.
func TestNew(t *testing.T) {
	if knot.New() == nil {
		t.Fatal("New() is nil")
	}
	k := knot.New()
	checkLen(t, k, 0)
	for _, a := range append([]int{0, 1, 7}, strangers...) {
		checkMark(t, k, a, 1, false)
		checkTie(t, k, a, a, false)
		checkOf(t, k, a, 0)
		checkLeast(t, k, a, -1)
		checkAlike(t, k, a, a, false)
	}
	checkLen(t, k, 0)
	checkAdd(t, k, 0)
}

// P7.1: elements are numbered in their order from 0 on, each in a class of its own, without a mark, whatever was called before.
func TestAdd(t *testing.T) {
	k := knot.New()
	checkAdd(t, k, 0)
	checkMark(t, k, 0, 3, true)
	checkAdd(t, k, 1)
	checkClasses(t, k, [][]int{{0}, {1}}, 3, 0)
	checkTie(t, k, 0, 1, true)
	checkAdd(t, k, 2)
	checkAdd(t, k, 3)
	checkClasses(t, k, [][]int{{0, 1}, {2}, {3}}, 3, 0, 0)
	checkTie(t, k, 4, 0, false)
	checkMark(t, k, 4, 1, false)
	checkAdd(t, k, 4)
	checkClasses(t, k, [][]int{{0, 1}, {2}, {3}, {4}}, 3, 0, 0, 0)
	checkTie(t, k, 4, 0, true)
	checkClasses(t, k, [][]int{{0, 1, 4}, {2}, {3}}, 3, 0, 0)
}

// P7.1: a class takes one mark, at any of its elements, and takes the same one again, but no other.
func TestMark(t *testing.T) {
	k := tied(t, 4, [2]int{1, 3})
	checkMark(t, k, 3, 5, true)
	checkClasses(t, k, [][]int{{0}, {1, 3}, {2}}, 0, 5, 0)
	checkMark(t, k, 1, 5, true)
	checkMark(t, k, 3, 5, true)
	for _, m := range []int{1, 4, 6, 5 + 1<<8, 5 + 1<<32, math.MaxInt} {
		checkMark(t, k, 1, m, false)
		checkMark(t, k, 3, m, false)
	}
	checkClasses(t, k, [][]int{{0}, {1, 3}, {2}}, 0, 5, 0)
	checkMark(t, k, 2, 5, true)
	checkClasses(t, k, [][]int{{0}, {1, 3}, {2}}, 0, 5, 5)
	for _, m := range []int{1, 2, 255, 256, 1 << 31, 1 << 32, 1<<32 + 1, math.MaxInt - 1, math.MaxInt} {
		k := elements(2)
		checkMark(t, k, 1, m, true)
		checkClasses(t, k, [][]int{{0}, {1}}, 0, m)
	}
}

// P7.1: a number that is not above 0 is no mark, whether the class carries one or not.
func TestNoMark(t *testing.T) {
	for _, m := range noMarks {
		k := tied(t, 3, [2]int{0, 1})
		checkMark(t, k, 0, m, false)
		checkMark(t, k, 2, m, false)
		checkClasses(t, k, [][]int{{0, 1}, {2}}, 0, 0)
		checkMark(t, k, 1, 7, true)
		checkMark(t, k, 0, m, false)
		checkMark(t, k, 1, m, false)
		checkClasses(t, k, [][]int{{0, 1}, {2}}, 7, 0)
	}
}

// P7.1: a tie makes one class of two, whichever of their elements it names.
func TestTie(t *testing.T) {
	for _, p := range [][2]int{{0, 1}, {0, 4}, {3, 1}, {3, 4}, {1, 0}, {4, 0}, {1, 3}, {4, 3}} {
		k := tied(t, 5, [2]int{3, 0}, [2]int{1, 4})
		checkClasses(t, k, [][]int{{0, 3}, {1, 4}, {2}}, 0, 0, 0)
		checkTie(t, k, p[0], p[1], true)
		checkClasses(t, k, [][]int{{0, 1, 3, 4}, {2}}, 0, 0)
	}
}

// P7.1: a tie of elements that are alike, or of an element and itself, is no change, with a mark and without one.
func TestTieAgain(t *testing.T) {
	k := tied(t, 3, [2]int{2, 1}, [2]int{2, 1}, [2]int{1, 2}, [2]int{1, 1}, [2]int{0, 0})
	checkClasses(t, k, [][]int{{0}, {1, 2}}, 0, 0)
	checkMark(t, k, 1, 4, true)
	checkTie(t, k, 1, 2, true)
	checkTie(t, k, 2, 2, true)
	checkTie(t, k, 0, 0, true)
	checkClasses(t, k, [][]int{{0}, {1, 2}}, 0, 4)
}

// P7.1: the least element of a class is the smallest of both, whichever class has it, and whichever is larger.
func TestLeast(t *testing.T) {
	k := tied(t, 6, [2]int{4, 5}, [2]int{3, 4})
	checkClasses(t, k, [][]int{{0}, {1}, {2}, {3, 4, 5}}, 0, 0, 0, 0)
	checkTie(t, k, 5, 1, true)
	checkClasses(t, k, [][]int{{0}, {1, 3, 4, 5}, {2}}, 0, 0, 0)
	checkTie(t, k, 2, 4, true)
	checkClasses(t, k, [][]int{{0}, {1, 2, 3, 4, 5}}, 0, 0)
	checkTie(t, k, 0, 3, true)
	checkClasses(t, k, [][]int{{0, 1, 2, 3, 4, 5}}, 0)
}

// P7.1: a class that is merged carries the mark that either class carried, the smaller one or the larger one, named first or last.
func TestMarkOfTie(t *testing.T) {
	for _, marked := range []int{0, 1, 2, 3, 4} {
		for _, p := range [][2]int{{0, 2}, {2, 0}, {1, 4}, {4, 1}} {
			k := tied(t, 5, [2]int{0, 1}, [2]int{2, 3}, [2]int{3, 4})
			checkMark(t, k, marked, 9, true)
			checkTie(t, k, p[0], p[1], true)
			checkClasses(t, k, [][]int{{0, 1, 2, 3, 4}}, 9)
			checkMark(t, k, 0, 8, false)
			checkMark(t, k, 4, 8, false)
			checkMark(t, k, 2, 9, true)
		}
	}
	k := elements(3)
	checkMark(t, k, 0, 6, true)
	checkMark(t, k, 2, 6, true)
	checkTie(t, k, 2, 0, true)
	checkClasses(t, k, [][]int{{0, 2}, {1}}, 6, 0)
}

// P7.1: classes with two different marks stay apart, each as it was, and can still be tied to others.
func TestDifferentMarks(t *testing.T) {
	for _, marks := range [][2]int{{1, 2}, {2, 1}, {1, math.MaxInt}, {7, 7 + 1<<32}, {1, 257}} {
		k := tied(t, 6, [2]int{0, 1}, [2]int{2, 3}, [2]int{3, 4})
		checkMark(t, k, 1, marks[0], true)
		checkMark(t, k, 4, marks[1], true)
		for _, a := range []int{0, 1} {
			for _, b := range []int{2, 3, 4} {
				checkTie(t, k, a, b, false)
				checkTie(t, k, b, a, false)
			}
		}
		checkClasses(t, k, [][]int{{0, 1}, {2, 3, 4}, {5}}, marks[0], marks[1], 0)
		checkTie(t, k, 5, 0, true)
		checkClasses(t, k, [][]int{{0, 1, 5}, {2, 3, 4}}, marks[0], marks[1])
		checkTie(t, k, 3, 5, false)
		checkMark(t, k, 5, marks[1], false)
		checkClasses(t, k, [][]int{{0, 1, 5}, {2, 3, 4}}, marks[0], marks[1])
	}
}

// P7.1: calls that name an element that there is not are refused and change nothing.
func TestNoElement(t *testing.T) {
	k := tied(t, 4, [2]int{0, 3})
	checkMark(t, k, 0, 2, true)
	for _, a := range append([]int{4, 5}, strangers...) {
		checkMark(t, k, a, 2, false)
		checkMark(t, k, a, 0, false)
		for _, b := range []int{0, 1, 3} {
			checkTie(t, k, a, b, false)
			checkTie(t, k, b, a, false)
			checkAlike(t, k, a, b, false)
			checkAlike(t, k, b, a, false)
		}
		for _, b := range strangers {
			checkTie(t, k, a, b, false)
			checkAlike(t, k, a, b, false)
		}
		checkTie(t, k, a, a, false)
		checkAlike(t, k, a, a, false)
		checkOf(t, k, a, 0)
		checkLeast(t, k, a, -1)
	}
	checkClasses(t, k, [][]int{{0, 3}, {1}, {2}}, 2, 0, 0)
	checkAdd(t, k, 4)
}

// P7.1: a nil knot has no elements and gets none.
func TestNil(t *testing.T) {
	var k *knot.Knot
	for range 2 {
		checkAdd(t, k, 0)
		checkLen(t, k, 0)
		for _, a := range append([]int{0, 1}, strangers...) {
			checkMark(t, k, a, 1, false)
			checkMark(t, k, a, 0, false)
			checkTie(t, k, a, 0, false)
			checkTie(t, k, a, a, false)
			checkAlike(t, k, a, 0, false)
			checkAlike(t, k, a, a, false)
			checkOf(t, k, a, 0)
			checkLeast(t, k, a, -1)
		}
	}
}

// P7.1: knots have their elements, classes and marks for themselves.
func TestKnotsApart(t *testing.T) {
	k, l := knot.New(), knot.New()
	checkAdd(t, k, 0)
	checkAdd(t, k, 1)
	checkMark(t, k, 1, 3, true)
	checkAdd(t, l, 0)
	checkLen(t, l, 1)
	checkAdd(t, l, 1)
	checkTie(t, l, 0, 1, true)
	checkMark(t, l, 0, 4, true)
	checkClasses(t, k, [][]int{{0}, {1}}, 0, 3)
	checkClasses(t, l, [][]int{{0, 1}}, 4)
	checkLen(t, knot.New(), 0)
}

package tree_test

import (
	"testing"

	"pendule/api"
	"pendule/tree"
)

// manyLevels is as deep as the document's promises go.
const manyLevels = 1 << 16

func checkMeasures(t *testing.T, e api.Expr, size, depth int) {
	t.Helper()
	if got := tree.Size(e); got != size {
		t.Errorf("Size(%.80s) = %d, want %d", tree.Show(e), got, size)
	}
	if got := tree.Depth(e); got != depth {
		t.Errorf("Depth(%.80s) = %d, want %d", tree.Show(e), got, depth)
	}
}

// P2.1: sizes and depths of well-formed expressions.
func TestMeasures(t *testing.T) {
	x := v("x")
	checkMeasures(t, x, 1, 1)
	checkMeasures(t, num(7), 1, 1)
	checkMeasures(t, un("-", x), 2, 2)
	checkMeasures(t, bin("+", x, un("-", x)), 4, 3)
	checkMeasures(t, bin("+", un("-", x), x), 4, 3)
	checkMeasures(t, of(api.If, x, bin("+", x, of(api.Pre, x)), num(1)), 7, 4)
	checkMeasures(t, when("A", "c", x), 2, 2)
	checkMeasures(t, arms(api.Merge, "c", "A B C", x, un("not", x), x), 5, 3)
	checkMeasures(t, call("f", "g h", copies(6, x)...), 7, 2)
	checkMeasures(t, of(api.Every, call("f", "", x), x), 4, 3)
	checkMeasures(t, large(299), 299, 9)
}

// P2.1: kids count in every expression, well-formed or not, and nothing else does.
func TestMeasuresOfIllFormed(t *testing.T) {
	x := v("x")
	checkMeasures(t, api.Expr{}, 1, 1)
	checkMeasures(t, api.Expr{Op: -1, Name: "f", N: 9, Cons: []string{"A", "B"}, Kids: []api.Expr{{}, {}}}, 3, 2)
	for op := -1; op < 20; op++ {
		checkMeasures(t, of(op), 1, 1)
		checkMeasures(t, of(op, copies(9, x)...), 10, 2)
		checkMeasures(t, of(op, x, of(op, of(op, x)), x), 6, 4)
	}
}

// P2.1: trees as deep as the promises go.
func TestManyLevels(t *testing.T) {
	e := deep(manyLevels)
	checkMeasures(t, e, manyLevels, manyLevels)
	checkErr(t, "many levels", tree.Right(with(e), false), api.ErrBound)
	checkErr(t, "many levels", tree.Right(with(e), true), api.ErrBound)
	if !tree.SameExpr(e, deep(manyLevels)) || tree.SameExpr(e, deep(manyLevels-1)) {
		t.Error("SameExpr of many levels")
	}
	if s, want := tree.Show(e), 6*(manyLevels-1)+1; len(s) != want {
		t.Errorf("the text of many levels has %d bytes, want %d", len(s), want)
	}
}

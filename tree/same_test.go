package tree_test

import (
	"reflect"
	"testing"

	"pendule/api"
	"pendule/tree"
)

// P2.1: a program is the same as its copy, and not the same as one in which a single field differs.
func TestSame(t *testing.T) {
	p := full()
	if !tree.Same(p, p) || !tree.Same(p, clone(p)) || !tree.Same(api.Program{}, api.Program{}) {
		t.Error("a program is not the same as itself")
	}
	l := variants(p)
	if len(l) < 300 {
		t.Fatalf("%d variants only", len(l))
	}
	for where, q := range l {
		if tree.Same(p, q) || tree.Same(q, p) {
			t.Errorf("the same, with a difference at %s", where)
		}
		if !tree.Same(q, clone(q)) {
			t.Errorf("not the same as itself, with a change at %s", where)
		}
	}
}

// P2.1: every field of an expression counts, whatever its Op is.
func TestSameExpr(t *testing.T) {
	for _, e := range append(small(), api.Expr{}, of(99, v("x")), api.Expr{Op: api.Int, Name: "x", N: -3, Cons: []string{"", "A"}, Kids: []api.Expr{{}}}) {
		if !tree.SameExpr(e, clone(e)) {
			t.Errorf("%s is not the same as its copy", tree.Show(e))
		}
		for where, d := range variants(e) {
			if tree.SameExpr(e, d) || tree.SameExpr(d, e) {
				t.Errorf("%s is the same as %s, which differs at %s", tree.Show(e), tree.Show(d), where)
			}
		}
	}
}

// P2.1: nil slices and empty slices are equal.
func TestSameWithEmptySlices(t *testing.T) {
	e := api.Expr{Cons: []string{}, Kids: []api.Expr{}}
	if !tree.SameExpr(e, api.Expr{}) || !tree.SameExpr(api.Expr{}, e) || !tree.SameExpr(of(api.Pre, e), of(api.Pre, api.Expr{})) {
		t.Error("expressions")
	}
	a := api.Program{
		Enums: []api.Enum{{Cons: []string{}}},
		Nodes: []api.Node{
			{Funs: []string{}, Ins: []string{}, Outs: []string{}, Items: []api.Item{}},
			{Items: []api.Item{{Eq: api.Eq{Names: []string{}, E: e}, States: []api.State{}}, {States: []api.State{{Eqs: []api.Eq{}, Ways: []api.Way{}}}}}},
		},
	}
	b := api.Program{
		Enums: []api.Enum{{}},
		Nodes: []api.Node{{}, {Items: []api.Item{{}, {States: []api.State{{}}}}}},
	}
	if !tree.Same(a, b) || !tree.Same(b, a) {
		t.Error("programs")
	}
	if !tree.Same(api.Program{Enums: []api.Enum{}, Nodes: []api.Node{}}, api.Program{}) {
		t.Error("empty programs")
	}
	if tree.Same(a, api.Program{}) || tree.Same(api.Program{}, b) {
		t.Error("an empty program is the same as another one")
	}
}

// P2.1: no call changes its arguments, and every call answers again what it answered.
func TestArgumentsStay(t *testing.T) {
	p, before := full(), clone(full())
	q := clone(p)
	text, _ := tree.Print(p)
	tree.Right(p, false)
	tree.Right(p, true)
	tree.Same(p, q)
	for _, i := range p.Nodes[1].Items {
		tree.Size(i.E)
		tree.Depth(i.E)
		tree.Show(i.E)
	}
	if !reflect.DeepEqual(clone(p), before) || !reflect.DeepEqual(q, before) {
		t.Error("an argument was changed")
	}
	if again, _ := tree.Print(p); again != text {
		t.Errorf("printed as %q, then as %q", text, again)
	}
}

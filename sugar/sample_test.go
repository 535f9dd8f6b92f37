package sugar_test

import (
	"testing"

	"pendule/api"
	"pendule/sugar"
	"pendule/tree"
)

// checkSample holds the sample of e by the constructor A of s.
func checkSample(t *testing.T, e, want api.Expr) {
	t.Helper()
	before := clone(e)
	got := sugar.Sample(e, "s", "A")
	if !tree.SameExpr(got, want) {
		t.Errorf("Sample(%v) = %v, want %v", before, got, want)
	}
	if !tree.SameExpr(e, before) {
		t.Errorf("%v is changed to %v", before, e)
	}
	checkApart(t, e, got)
}

// P6.1: each Var is replaced, and nothing else.
func TestSample(t *testing.T) {
	for _, x := range []struct{ e, want string }{
		{"x", "x when A(s)"},
		{"s", "s when A(s)"},
		{"1", "1"},
		{"true", "true"},
		{"A", "A"},
		{"- x", "- (x when A(s))"},
		{"not not x", "not not (x when A(s))"},
		{"x + y * x", "(x when A(s)) + (y when A(s)) * (x when A(s))"},
		{"1 + 2", "1 + 2"},
		{"if x then 1 else y", "if (x when A(s)) then 1 else (y when A(s))"},
		{"0 fby x", "0 fby (x when A(s))"},
		{"x fby 0", "(x when A(s)) fby 0"},
		{"pre x", "pre (x when A(s))"},
		{"x -> pre y", "(x when A(s)) -> pre (y when A(s))"},
		{"f(x, 1)", "f(x when A(s), 1)"},
		{"f[x, g](x)", "f[x, g](x when A(s))"},
		{"x(x)", "x(x when A(s))"},
		{"f(x) every y", "f(x when A(s)) every (y when A(s))"},
		{"x when B(y)", "(x when A(s)) when B(y)"},
		{"x when A(s)", "x when A(s) when A(s)"},
		{"1 when B(x)", "1 when B(x)"},
		{"merge x (B -> x | C -> 2)", "merge x (B -> x when A(s) | C -> 2)"},
		{"match x (B -> x | C -> 2)", "match x (B -> x when A(s) | C -> 2)"},
	} {
		checkSample(t, expr(t, x.e), expr(t, x.want))
	}
}

// P6.1: any strings may be given as the variable and the constructor.
func TestSampleByAnything(t *testing.T) {
	x := api.Expr{Op: api.Var, Name: "x"}
	for _, s := range []string{"", "_s0", "A", "every", "é"} {
		want := api.Expr{Op: api.When, Name: s, Cons: []string{s + "1"}, Kids: []api.Expr{x}}
		if got := sugar.Sample(x, s, s+"1"); !tree.SameExpr(got, want) {
			t.Errorf("Sample by %q is %v, want %v", s, got, want)
		}
	}
}

// P6.1: a Var stays as it is inside of its When, whatever it has.
func TestSampleOfOddVar(t *testing.T) {
	x := api.Expr{Op: api.Var, Name: "x"}
	for _, odd := range []api.Expr{
		{Op: api.Var},
		{Op: api.Var, Name: "x", N: 7},
		{Op: api.Var, Name: "x", Cons: []string{"B", "C"}},
		{Op: api.Var, Name: "x", Kids: []api.Expr{x}},
		{Op: api.Var, Name: "x", Kids: []api.Expr{{Op: api.Pre, Kids: []api.Expr{x, {Op: api.Var, Kids: []api.Expr{x}}}}, x}},
	} {
		want := api.Expr{Op: api.When, Name: "s", Cons: []string{"A"}, Kids: []api.Expr{odd}}
		checkSample(t, odd, want)
		around := api.Expr{Op: api.Pre, Kids: []api.Expr{odd, odd}}
		checkSample(t, around, api.Expr{Op: api.Pre, Kids: []api.Expr{want, want}})
	}
}

// P6.1: expressions that are not well-formed keep all of their fields, and their kids are sampled.
func TestSampleOfIllFormed(t *testing.T) {
	x := api.Expr{Op: api.Var, Name: "x"}
	sampled := api.Expr{Op: api.When, Name: "s", Cons: []string{"A"}, Kids: []api.Expr{x}}
	checkSample(t, api.Expr{}, api.Expr{})
	for op := -1; op < 20; op++ {
		if op == api.Var {
			continue
		}
		e := api.Expr{Op: op, Name: "x", N: -3, Cons: []string{"x", "", "B"}, Kids: []api.Expr{x, {Op: op, Kids: []api.Expr{x, x}}, {}}}
		want := clone(e)
		want.Kids[0] = sampled
		want.Kids[1].Kids = []api.Expr{sampled, sampled}
		checkSample(t, e, want)
		checkSample(t, api.Expr{Op: op}, api.Expr{Op: op})
	}
}

// P6.1: an expression as deep as the document's promises go.
func TestSampleOfManyLevels(t *testing.T) {
	const levels = 1 << 16
	e := api.Expr{Op: api.Var, Name: "x"}
	want := api.Expr{Op: api.When, Name: "s", Cons: []string{"A"}, Kids: []api.Expr{e}}
	for range levels - 1 {
		e = api.Expr{Op: api.Pre, Kids: []api.Expr{e}}
		want = api.Expr{Op: api.Pre, Kids: []api.Expr{want}}
	}
	if !tree.SameExpr(sugar.Sample(e, "s", "A"), want) {
		t.Error("Sample of many levels")
	}
}

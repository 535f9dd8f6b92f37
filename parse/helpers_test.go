package parse_test

import (
	"strings"
	"testing"

	"pendule/api"
	"pendule/parse"
	"pendule/tree"
)

func num(n int64) api.Expr { return api.Expr{Op: api.Int, N: n} }

func boolean(n int64) api.Expr { return api.Expr{Op: api.Bool, N: n} }

func con(s string) api.Expr { return api.Expr{Op: api.Con, Name: s} }

func v(s string) api.Expr { return api.Expr{Op: api.Var, Name: s} }

func un(s string, e api.Expr) api.Expr { return api.Expr{Op: api.Un, Name: s, Kids: []api.Expr{e}} }

func bin(a api.Expr, s string, b api.Expr) api.Expr {
	return api.Expr{Op: api.Bin, Name: s, Kids: []api.Expr{a, b}}
}

// of returns an expression that has nothing but kids.
func of(op int, l ...api.Expr) api.Expr { return api.Expr{Op: op, Kids: l} }

func when(e api.Expr, c, x string) api.Expr {
	return api.Expr{Op: api.When, Name: x, Cons: []string{c}, Kids: []api.Expr{e}}
}

// arms returns a Merge or a Match by x; cons are its constructors, with spaces between them.
func arms(op int, x, cons string, l ...api.Expr) api.Expr {
	return api.Expr{Op: op, Name: x, Cons: strings.Fields(cons), Kids: l}
}

// call returns a call of f; funs are its static arguments, with spaces between them.
func call(f, funs string, l ...api.Expr) api.Expr {
	return api.Expr{Op: api.Call, Name: f, Cons: strings.Fields(funs), Kids: l}
}

func syntax(line, col int) api.Fault { return api.Fault{Err: api.ErrSyntax, A: line, B: col} }

func bound(line, col int) api.Fault { return api.Fault{Err: api.ErrBound, A: line, B: col} }

// words returns n copies of s with sep between any two of them.
func words(n int, s, sep string) string {
	return strings.TrimSuffix(strings.Repeat(s+sep, n), sep)
}

// inNode returns the text of a program with these items, on the first line, the first of them at itemCol.
func inNode(items string) string {
	return "node f (x) = (y) where " + items + " end"
}

const itemCol = 24

func checkExpr(t *testing.T, text string, want api.Expr) {
	t.Helper()
	got, f := parse.Expr(text)
	if f != (api.Fault{}) {
		t.Errorf("Expr(%.200q): fault %v", text, f)
		return
	}
	if !tree.SameExpr(got, want) {
		t.Errorf("Expr(%.200q) = %.200s, want %.200s", text, tree.Show(got), tree.Show(want))
	}
}

// checkShown holds the tree of an expression against its text by layer 2.
func checkShown(t *testing.T, text, want string) {
	t.Helper()
	got, f := parse.Expr(text)
	if s := tree.Show(got); f != (api.Fault{}) || s != want {
		t.Errorf("Expr(%.200q) = %.200s, %v, want %.200s", text, s, f, want)
	}
}

func checkExprFault(t *testing.T, text string, want api.Fault) {
	t.Helper()
	e, f := parse.Expr(text)
	if f != want {
		t.Errorf("Expr(%.200q): fault %v, want %v", text, f, want)
	}
	if f.Err != api.OK && !tree.SameExpr(e, api.Expr{}) {
		t.Errorf("Expr(%.200q): %.200s beside a fault", text, tree.Show(e))
	}
}

func checkProgram(t *testing.T, text string, want api.Program) {
	t.Helper()
	got, f := parse.Parse(text)
	if f != (api.Fault{}) {
		t.Errorf("Parse(%.200q): fault %v", text, f)
		return
	}
	if !tree.Same(got, want) {
		t.Errorf("Parse(%.200q) = %v, want %v", text, got, want)
	}
}

// checkItems holds the items of a node against want.
func checkItems(t *testing.T, items string, want ...api.Item) {
	t.Helper()
	checkProgram(t, inNode(items), programOf(want...))
}

func programOf(items ...api.Item) api.Program {
	return api.Program{Nodes: []api.Node{{Name: "f", Ins: []string{"x"}, Outs: []string{"y"}, Items: items}}}
}

func equation(e api.Expr, names ...string) api.Item {
	return api.Item{Eq: api.Eq{Names: names, E: e}}
}

func checkFault(t *testing.T, text string, want api.Fault) {
	t.Helper()
	p, f := parse.Parse(text)
	if f != want {
		t.Errorf("Parse(%.200q): fault %v, want %v", text, f, want)
	}
	if f.Err != api.OK && !tree.Same(p, api.Program{}) {
		t.Errorf("Parse(%.200q): %v beside a fault", text, p)
	}
}

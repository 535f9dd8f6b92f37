package order_test

import (
	"encoding/json"
	"slices"
	"strings"
	"testing"

	"pendule/api"
	"pendule/normal"
	"pendule/order"
	"pendule/parse"
)

// sorts are the words behind the names of an equation. One of the word "other" has no sort.
var sorts = map[string]int{"=": api.NExp, "flag": api.NFlag, "memory": api.NMem, "call": api.NCall, "other": 0}

// equation returns the equation of a text: its names, then the samples of its clock, each as @x=C, then a word of sorts and the expression, and then, where there is one, "reset" and a variable.
func equation(t *testing.T, text string) api.NEq {
	t.Helper()
	var q api.NEq
	words := strings.Fields(text)
	for i, w := range words {
		sort, ok := sorts[w]
		x, con, sampled := strings.Cut(strings.TrimPrefix(w, "@"), "=")
		switch {
		case ok:
			q.Sort = sort
			behind, reset, _ := strings.Cut(strings.Join(words[i+1:], " "), "reset ")
			q.Reset = reset
			if behind != "" {
				q.E = expr(t, behind)
			}
			return q
		case sampled:
			q.Clock = append(q.Clock, api.Sample{Var: x, Con: con})
		default:
			q.Names = append(q.Names, strings.TrimSuffix(w, ","))
		}
	}
	t.Fatalf("%q is no equation", text)
	return q
}

// node returns a node with the equations of a text, which stand with a semicolon between any two.
func node(t *testing.T, text string) api.NNode {
	t.Helper()
	n := api.NNode{Name: "f", Ins: []string{"x"}, Outs: []string{"y"}}
	for _, s := range strings.Split(text, ";") {
		n.Eqs = append(n.Eqs, equation(t, s))
	}
	return n
}

// expr returns the expression of a text.
func expr(t *testing.T, text string) api.Expr {
	t.Helper()
	e, f := parse.Expr(text)
	if f != (api.Fault{}) {
		t.Fatalf("Expr(%q): fault %v", text, f)
	}
	return e
}

func variable(name string) api.Expr { return api.Expr{Op: api.Var, Name: name} }

// program returns the program of a text, which must be well-formed.
func program(t *testing.T, text string) api.Program {
	t.Helper()
	p, f := parse.Parse(text)
	if f != (api.Fault{}) {
		t.Fatalf("Parse(%q): fault %v", text, f)
	}
	return p
}

// normalized returns the normal nodes of p, which must have no fault.
func normalized(t *testing.T, p api.Program) []api.NNode {
	t.Helper()
	l, f := normal.Make(p)
	if f != (api.Fault{}) {
		t.Fatalf("normal.Make(%s): fault %v", show(p), f)
	}
	return l
}

// checkNode holds the order of n, where nil is none, and that the judge has the same one.
func checkNode(t *testing.T, n api.NNode, want []int) {
	t.Helper()
	if l := placed(n); !slices.Equal(l, want) || (l == nil) != (want == nil) {
		t.Errorf("the judge has the order %v, want %v: %s", l, want, show(n))
	}
	if got, ok := order.Make(n); !slices.Equal(got, want) || ok != (want != nil) || !ok && got != nil {
		t.Errorf("Make(%s) = %v, %v, want %v", show(n), got, ok, want)
	}
}

// checkOrder holds the order of a node with these equations.
func checkOrder(t *testing.T, equations string, want ...int) {
	t.Helper()
	checkNode(t, node(t, equations), want)
}

// checkNone holds that a node with these equations has no order, and has one without the last of them.
func checkNone(t *testing.T, texts ...string) {
	t.Helper()
	for _, s := range texts {
		n := node(t, s)
		checkNode(t, n, nil)
		n.Eqs = n.Eqs[:len(n.Eqs)-1]
		if _, ok := order.Make(n); !ok {
			t.Errorf("%s has no order without its last equation either", s)
		}
	}
}

// show writes all of x.
func show(x any) string {
	b, err := json.Marshal(x)
	if err != nil {
		panic(err)
	}
	return string(b)
}

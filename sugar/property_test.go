package sugar_test

import (
	"maps"
	"slices"
	"strings"
	"testing"

	"pendule/api"
	"pendule/parse"
	"pendule/scope"
	"pendule/sugar"
	"pendule/tree"
)

// tooLarge reports whether a node of a text of a program without automata has expressions that are too deep or too large.
func tooLarge(t *testing.T, text string) bool {
	t.Helper()
	for _, n := range strings.Split(text, " where ")[1:] {
		items, _, _ := strings.Cut(n, "end ")
		size := 0
		for _, i := range strings.Split(items, " ; ") {
			if _, right, ok := strings.Cut(i, " = "); ok {
				e := expr(t, strings.ReplaceAll(right, "_", "g")) // a source text has no generated names
				size += tree.Size(e)
				if tree.Depth(e) > api.MaxDepth {
					return true
				}
			}
		}
		if size > api.MaxSize {
			return true
		}
	}
	return false
}

// P6.1, P6.2, P6.3: drawn programs have the translations that are drawn with them, or the fault of those that are too large.
func TestDrawn(t *testing.T) {
	m := newMaker(1)
	right, large := 0, 0
	for range 1500 {
		drawn := m.program()
		p, f := parse.Parse(drawn.source)
		if f == (api.Fault{Err: api.ErrBound}) {
			continue
		}
		if f == (api.Fault{}) {
			f = scope.Check(p, false)
		}
		if f != (api.Fault{}) {
			t.Fatalf("%q is drawn with the fault %v", drawn.source, f)
		}
		if tooLarge(t, drawn.plain) {
			large++
			checkFault(t, p, api.Fault{Err: api.ErrBound})
			continue
		}
		right++
		checkTranslation(t, p, drawn.plain)
		q, _ := sugar.Plain(p)
		checkApart(t, p, q)
		if again, f := sugar.Plain(p); f != (api.Fault{}) || !tree.Same(q, again) {
			t.Fatalf("Plain(%q) is another program the second time", drawn.source)
		}
		if t.Failed() {
			return
		}
	}
	if right < 1000 || large < 50 {
		t.Errorf("%d programs with a translation and %d without one only", right, large)
	}
}

// P6.1: a sample of a drawn expression replaces its variables, and nothing else.
func TestDrawnSamples(t *testing.T) {
	m := newMaker(2)
	m.vars = []string{"x", "y", "s"}
	for range 3000 {
		text := m.expr(5, false).source
		checkSample(t, expr(t, unmarked(text)), expr(t, sampled(text, "s", "A")))
	}
}

// P6.1, P6.2, P6.3, W0: a program with any part changed has the fault of layer 5, or a translation that keeps the promises.
func TestVariants(t *testing.T) {
	faults := map[api.Errno]int{}
	for _, p := range variants(program(t, inNode(all))) {
		f := scope.Check(p, false)
		faults[f.Err]++
		checkFault(t, p, f)
		checkSamples(t, p)
	}
	for _, err := range []api.Errno{api.OK, api.ErrField, api.ErrScope} {
		if faults[err] < 50 {
			t.Errorf("%d variants with the error %d only", faults[err], err)
		}
	}
}

// checkSamples holds the samples of all equations of p by the number of variables that stand in no other one.
func checkSamples(t *testing.T, p api.Program) {
	t.Helper()
	for _, n := range p.Nodes {
		for _, i := range n.Items {
			got := sugar.Sample(i.E, "s", "A")
			if want := tree.Size(i.E) + outermost(i.E); tree.Size(got) != want {
				t.Fatalf("Sample(%v) = %v has the size %d, want %d", i.E, got, tree.Size(got), want)
			}
			checkApart(t, i.E, got)
		}
	}
}

// outermost returns the number of variables in e that are in no other variable.
func outermost(e api.Expr) int {
	if e.Op == api.Var {
		return 1
	}
	n := 0
	for _, k := range e.Kids {
		n += outermost(k)
	}
	return n
}

// variants returns copies of p, each with one number, one string or one list changed.
func variants(p api.Program) []api.Program {
	root := converted[any](p)
	var all []api.Program
	vary(root, func(by any) { root = by }, func() { all = append(all, converted[api.Program](root)) })
	return all
}

// vary puts changed values in the place of x by set, one at a time, and notes each; in the end, x is back in its place.
func vary(x any, set func(by any), note func()) {
	for _, by := range changed(x) {
		set(by)
		note()
	}
	set(x)
	switch x := x.(type) {
	case map[string]any:
		for _, k := range slices.Sorted(maps.Keys(x)) {
			vary(x[k], func(by any) { x[k] = by }, note)
		}
	case []any:
		for i := range x {
			vary(x[i], func(by any) { x[i] = by }, note)
		}
	}
}

// changed returns what a number, a string or a list is changed to.
func changed(x any) []any {
	switch x := x.(type) {
	case float64:
		return []any{x + 1, x - 1}
	case string:
		return []any{"", "x", "y", "A", "Red", "inc", "other", x + "1"}
	case []any:
		l := []any{slices.Concat(x, x)}
		if len(x) > 0 {
			l = append(l, []any{}, x[1:], x[:len(x)-1])
		}
		if len(x) > 1 {
			l = append(l, append([]any{x[1], x[0]}, x[2:]...))
		}
		return l
	}
	return nil
}

package clocks_test

import (
	"slices"
	"strings"
	"testing"

	"pendule/api"
	"pendule/clocks"
)

// vars are the variables of the tests of expressions.
const vars = "x c d v:c=A u:c=B w:c=A,v=P q:d=A"

// checkFits holds expressions against the clocks that they can have: a list, as written by showClock, of all of those below.
func checkFits(t *testing.T, want []string, texts ...string) {
	t.Helper()
	for _, s := range texts {
		e := expr(t, s)
		for _, c := range []string{"", "c=A", "c=B", "d=A", "c=A,v=P", "c=A,v=Q", "c=A,v=P,w=A", "c=A,c=A", "v=P", "x=A", "c=A,w=A", "d=A,q=A", "d=A,v=P", "c=B,v=P"} {
			if got := clocks.Fits(readVars(vars), e, readClock(c)); got != slices.Contains(want, c) {
				t.Errorf("Fits(%q, %q, %q) = %v", vars, s, c, got)
			}
		}
	}
}

func all() []string {
	return []string{"", "c=A", "c=B", "d=A", "c=A,v=P", "c=A,v=Q", "c=A,v=P,w=A", "c=A,c=A", "v=P", "x=A", "c=A,w=A", "d=A,q=A", "d=A,v=P", "c=B,v=P"}
}

// P9.1: constants, and what is made of them alone, can have any clock.
func TestFitsConstants(t *testing.T) {
	checkFits(t, all(), "1", "true", "A", "True", "- 1", "1 + 2", "if true then A else B", "0 fby 1", "0 -> pre 1", "f(1)", "f[g](1, 2) every true", "f(pre 1, not g(A) every B)")
}

// P9.1: a variable has its clock alone, and so has what is made of it and of constants.
func TestFitsVariables(t *testing.T) {
	for _, x := range []struct{ name, clock string }{{"x", ""}, {"c", ""}, {"v", "c=A"}, {"u", "c=B"}, {"w", "c=A,v=P"}, {"q", "d=A"}} {
		checkFits(t, []string{x.clock}, x.name)
		for _, form := range append([]string{"- @", "not @", "pre @", "f(@)", "f[g](@) every true", "f(1, 2, @, 3, 4, 5)", "f(1) every pre @"}, alike...) {
			checkFits(t, []string{x.clock}, within(form, x.name, x.name), within(form, x.name, "1"))
			if strings.Contains(form, "#") {
				checkFits(t, []string{x.clock}, within(form, "1", x.name))
				other := map[bool]string{true: "x", false: "w"}[x.clock != ""]
				checkFits(t, nil, within(form, x.name, other), within(form, other, x.name), within(form, x.name, "z"), within(form, "z", "1"), within(form, "1", "z"))
			}
		}
	}
	checkFits(t, nil, "z", "1 + z", "z when A(c)", "f(1, z)", "x + v", "v + u", "f(x) every v")
}

// P9.1: a when has the clock of its variable with the sample appended, if its kid has the clock of that variable.
func TestFitsWhen(t *testing.T) {
	checkFits(t, []string{"c=A"}, "1 when A(c)", "x when A(c)", "c when A(c)", "d when A(c)", "(x + 1) when A(c)", "v + (x when A(c))", "pre ((pre x) when A(c))")
	checkFits(t, []string{"c=B"}, "1 when B(c)", "x when B(c)", "u fby (x when B(c))")
	checkFits(t, []string{"c=A,v=P"}, "1 when P(v)", "v when P(v)", "x when A(c) when P(v)", "w", "w + (v when P(v))", "(v + 1) when P(v)")
	checkFits(t, []string{"c=A,v=P,w=A"}, "1 when A(w)", "w when A(w)", "v when P(v) when A(w)", "x when A(c) when P(v) when A(w)")
	checkFits(t, []string{"x=A"}, "x when A(x)", "c when A(x)")
	checkFits(t, []string{"d=A,q=A"}, "q when A(q)", "1 when A(q)", "x when A(d) when A(q)")
	checkFits(t, []string{"c=A,v=Q"}, "v when Q(v)", "x when A(c) when Q(v)")
	checkFits(t, nil, "v when A(c)", "x when P(v)", "u when P(v)", "x when B(c) when P(v)", "x when A(d) when P(v)", "x when A(c) when A(c)", "1 when A(c) when A(c)", "1 when A(z)", "z when A(c)",
		"(x when A(c)) + (x when B(c))", "(1 when A(c)) + (1 when A(d))", "(1 when A(c)) + x", "q when P(v)", "1 when C(c)", "1 when R(v)")
}

// P9.1: a merge has the clock of its variable, if each kid has that clock with the sample of its constructor.
func TestFitsMerge(t *testing.T) {
	checkFits(t, []string{""}, "merge c (A -> 1 | B -> 2)", "merge c (A -> v | B -> u)", "merge c (B -> u | A -> v)", "merge c (A -> v)", "merge c (A -> x when A(c) | B -> 0)", "merge x (A -> 1)",
		"merge c (A -> merge v (P -> w | Q -> 1) | B -> 2)", "merge d (A -> q | C -> 1 | A -> q)", "x + merge c (B -> u)", "merge c (A -> v + 1 | B -> pre u)")
	checkFits(t, []string{"c=A"}, "merge v (P -> w | Q -> 1)", "merge v (Q -> 1)", "v + merge v (P -> w)", "merge v (P -> 1 when P(v) | Q -> v when Q(v))", "(merge c (A -> v | B -> u)) when A(c)")
	checkFits(t, []string{"c=A,v=P"}, "merge w (A -> 1 | B -> 2)", "(merge v (P -> w)) when P(v)", "w fby merge w (A -> w when A(w))")
	checkFits(t, nil, "merge c (A -> u | B -> v)", "merge c (A -> x | B -> u)", "merge c (A -> v | B -> x)", "merge c (A -> v | B -> v)", "merge v (P -> v)", "merge v (P -> x)", "merge z (A -> 1)", "merge c (A -> z | B -> 1)",
		"merge c (A -> merge c (A -> 1) | B -> 1)", "merge d (A -> v)", "merge v (P -> 1) + x", "merge w (A -> w)", "merge c (A -> 1 | A -> u)", "merge c (A -> v | B -> u | C -> u)")
}

// e1 is an expression of one field more than Op and kids.
func e1(op int, name string, cons []string, kids ...api.Expr) api.Expr {
	return api.Expr{Op: op, Name: name, Cons: cons, Kids: kids}
}

// checkTree holds what Fits returns of a tree, with the variables x, at the base clock, and s, at that of A of x.
func checkTree(t *testing.T, want bool, c string, trees ...api.Expr) {
	t.Helper()
	for _, e := range trees {
		if got := clocks.Fits(readVars("x s:x=A"), e, readClock(c)); got != want {
			t.Errorf("Fits(%s, %q) = %v", show(e), c, got)
		}
	}
}

// P9.1: what an expression may be is told by its Op; a match is none, nor is a part of flat programs.
func TestFitsOps(t *testing.T) {
	x, one := e1(api.Var, "x", nil), e1(api.Int, "", nil)
	for _, op := range []int{api.Match, api.Mem, 0, -1, 17, 1 << 40, -1 << 63} {
		for _, kids := range [][]api.Expr{nil, {one}, {one, one}} {
			checkTree(t, false, "", e1(op, "x", []string{"A", "B"}, kids...), e1(op, "", nil, kids...))
			checkTree(t, false, "", e1(api.Un, "-", nil, e1(op, "x", []string{"A", "B"}, kids...)), e1(api.Call, "f", nil, x, one, e1(op, "", nil, kids...)))
			checkTree(t, false, "x=A", e1(api.When, "x", []string{"A"}, e1(op, "x", []string{"A", "B"}, kids...)))
			checkTree(t, false, "", e1(api.Merge, "x", []string{"A", "B"}, one, e1(op, "x", []string{"A", "B"}, kids...)))
		}
	}
}

// P9.1: of a constant and of a variable no kids are considered, of a when the first one alone, and the first constructor; of all others all kids.
func TestFitsKids(t *testing.T) {
	x, s, z, bad := e1(api.Var, "x", nil), e1(api.Var, "s", nil), e1(api.Var, "z", nil), e1(api.Match, "x", nil)
	for _, op := range []int{api.Int, api.Bool, api.Con} {
		checkTree(t, true, "", e1(op, "", nil, z, bad), e1(op, "z", []string{"", "A"}, s))
		checkTree(t, true, "y=B", e1(op, "", nil, x, bad))
	}
	checkTree(t, true, "", e1(api.Var, "x", nil, z, bad), e1(api.Var, "x", []string{"A"}, s))
	checkTree(t, true, "x=A", e1(api.Var, "s", nil, z, bad), e1(api.Var, "s", nil, x))
	checkTree(t, false, "x=A", e1(api.Var, "x", nil, s))
	checkTree(t, true, "x=A", e1(api.When, "x", []string{"A", "B"}, x, z, bad), e1(api.When, "x", []string{"A", ""}, x, s))
	checkTree(t, false, "x=A", e1(api.When, "x", []string{"B", "A"}, x, x), e1(api.When, "x", []string{"A"}, s, x), e1(api.When, "x", []string{"A"}, bad, x), e1(api.When, "x", []string{"A"}, z, x))
	checkTree(t, false, "x=A", e1(api.When, "x", []string{"A"}), e1(api.When, "x", nil, x), e1(api.When, "x", nil), e1(api.When, "z", []string{"A"}, x), e1(api.When, "", []string{"A"}, x))
	checkTree(t, false, "", e1(api.When, "x", []string{"A"}), e1(api.When, "x", nil, x), e1(api.When, "x", []string{"A"}, x), e1(api.When, "z", []string{"A"}, x), e1(api.When, "z", nil))
	for _, op := range []int{api.Un, api.Bin, api.If, api.Fby, api.Pre, api.Arrow, api.Call, api.Every} {
		for n := range 8 {
			kids := slices.Repeat([]api.Expr{x}, n)
			checkTree(t, true, "", e1(op, "", nil, kids...), e1(op, "z", []string{"A"}, kids...))
			checkTree(t, n == 0, "x=A", e1(op, "", nil, kids...))
			checkTree(t, n == 0, "y=B,z=C", e1(op, "", nil, kids...))
			for i := range n {
				for _, k := range []api.Expr{s, z, bad} {
					kids[i] = k
					checkTree(t, false, "", e1(op, "", nil, kids...))
					checkTree(t, n == 1 && k.Name == "s", "x=A", e1(op, "", nil, kids...))
				}
				kids[i] = x
			}
		}
	}
}

// P9.1: a merge has at least as many constructors as kids.
func TestFitsArms(t *testing.T) {
	x, s, one := e1(api.Var, "x", nil), e1(api.Var, "s", nil), e1(api.Int, "", nil)
	checkTree(t, true, "", e1(api.Merge, "x", nil), e1(api.Merge, "x", []string{"A", "B"}), e1(api.Merge, "x", []string{"A", "B"}, s), e1(api.Merge, "x", []string{"A", "B", "A"}, s, one, s), e1(api.Merge, "x", []string{"A"}, one))
	checkTree(t, false, "", e1(api.Merge, "x", nil, one), e1(api.Merge, "x", []string{"A"}, s, one), e1(api.Merge, "x", []string{"A", "B"}, s, one, one), e1(api.Merge, "x", []string{"B", "A"}, s), e1(api.Merge, "x", []string{"A", "B"}, one, s),
		e1(api.Merge, "z", nil), e1(api.Merge, "z", []string{"A"}, one), e1(api.Merge, "", []string{"A"}), e1(api.Merge, "x", []string{"A"}, x), e1(api.Merge, "s", []string{"A"}), e1(api.Merge, "s", nil))
	checkTree(t, true, "x=A", e1(api.Merge, "s", nil), e1(api.Merge, "s", []string{"A"}, one), e1(api.Merge, "s", []string{"A", "B"}, e1(api.When, "s", []string{"A"}, s)))
	checkTree(t, false, "x=A", e1(api.Merge, "x", nil), e1(api.Merge, "x", []string{"A"}, one), e1(api.Merge, "s", nil, one), e1(api.Merge, "s", []string{"A"}, s))
	many := e1(api.Merge, "x", nil)
	for range 2000 {
		many.Cons, many.Kids = append(many.Cons, "A", "B"), append(many.Kids, s, one)
	}
	checkTree(t, true, "", many)
	many.Kids[3999] = s
	checkTree(t, false, "", many)
}

// P9.1: of several variables with one name the first one counts; without variables, constants have clocks all the same.
func TestFitsNames(t *testing.T) {
	for _, x := range []struct {
		vars, text, clock string
		want              bool
	}{
		{"x x:c=A", "x", "", true}, {"x x:c=A", "x", "c=A", false}, {"x:c=A x", "x", "c=A", true}, {"x:c=A x", "x", "", false}, {"y x:c=A y x x:c=B", "x + y", "", false}, {"y:c=A x:c=A y x x:c=B", "x + y", "c=A", true},
		{"c c:d=A x", "x when A(c)", "c=A", true}, {"c c:d=A x", "x when A(c)", "d=A,c=A", false}, {"c:d=A c x", "x when A(c)", "c=A", false}, {"c:d=A c x", "1 when A(c)", "d=A,c=A", true},
		{"c c:d=A", "merge c (A -> 1)", "", true}, {"c:d=A c", "merge c (A -> 1)", "", false}, {"c:d=A c", "merge c (A -> 1)", "d=A", true},
		{"", "1", "", true}, {"", "1 + 2", "c=A", true}, {"", "x", "", false}, {"", "1 when A(x)", "x=A", false}, {"", "merge x (A -> 1)", "", false}, {"", "f(1) every true", "x=A", true},
		// The clocks of variables may be any ones, whether they go together or not.
		{"x:y=A y:x=A", "x", "y=A", true}, {"x:y=A y:x=A", "1 when B(x)", "y=A,x=B", true}, {"x:y=A y:x=A", "y when B(x)", "y=A,x=B", false}, {"x:x=A", "x when A(x)", "x=A,x=A", true}, {"x:x=A", "merge x (A -> 1)", "x=A", true},
		{"x:a=A,b=B y:c=A,b=B", "x + y", "a=A,b=B", false}, {"x:a=A,b=B y:c=A,b=B", "x + y", "c=A,b=B", false}, {"x:a=A,b=B y:b=B", "x + y", "a=A,b=B", false}, {"x:a=A,b=B y:b=B", "x + y", "b=B", false}, {"x:a=A,b=B y:b=B", "x", "b=B", false}, {"y:b=B", "y", "a=A,b=B", false},
		{"x:a=A", "x", "a=B", false}, {"x:a=A", "x", "b=A", false}, {"x:a=A", "x", "a=A,a=A", false}, {"x:a=A,a=A", "x", "a=A", false}, {"x:a=A,b=B", "x", "b=B,a=A", false},
	} {
		if got := clocks.Fits(readVars(x.vars), expr(t, x.text), readClock(x.clock)); got != x.want {
			t.Errorf("Fits(%q, %q, %q) = %v", x.vars, x.text, x.clock, got)
		}
	}
	named := []api.Named{{Name: "x", Type: api.TyInt, Clock: api.Clock{}}, {Name: "", Type: -1}}
	for _, c := range []api.Clock{nil, {}} {
		if !clocks.Fits(named, e1(api.Var, "x", nil), c) || !clocks.Fits(named, e1(api.Var, "", nil), c) {
			t.Error("a nil clock and an empty one are not the same")
		}
	}
	if clocks.Fits(named, e1(api.Var, "x", nil), api.Clock{{}}) || !clocks.Fits(named, e1(api.When, "", []string{""}, e1(api.Var, "", nil)), api.Clock{{}}) {
		t.Error("an empty sample")
	}
}

// W0, R4: Fits returns for deep trees, and changes no argument, nor what stands behind a list in its memory.
func TestFitsMemory(t *testing.T) {
	deep := e1(api.Var, "x", nil)
	for range 1 << 16 {
		deep = e1(api.Pre, "", nil, deep)
	}
	checkTree(t, true, "", deep)
	checkTree(t, false, "x=A", deep)
	marks := api.Clock{{Var: "c", Con: "A"}, {Var: "mark", Con: "M"}, {Var: "mark", Con: "M"}}
	l := []api.Named{{Name: "c", Clock: marks[:0]}, {Name: "v", Clock: marks[:1]}}
	e := expr(t, "merge c (A -> merge v (P -> 1 when P(v) | Q -> v when Q(v)) | B -> c when B(c))")
	before := show([]any{marks, l, e})
	if !clocks.Fits(l, e, marks[1:1]) {
		t.Error("Fits is false")
	}
	if got := show([]any{marks, l, e}); got != before {
		t.Errorf("%s is changed to %s", before, got)
	}
}

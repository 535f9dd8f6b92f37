package cause_test

import (
	"slices"
	"strconv"
	"strings"
	"testing"

	"pendule/api"
	"pendule/cause"
)

// P11.1: what a well-formed expression reads, by its Op.
func TestReads(t *testing.T) {
	for _, x := range []struct{ text, want string }{
		{"1", ""}, {"true", ""}, {"Red", ""}, {"x", "x"},
		{"- x", "x"}, {"not x", "x"}, {"x + y", "x y"}, {"x and 1", "x"}, {"1 < x", "x"},
		{"if x then y else z", "x y z"}, {"if 1 then y else z", "y z"}, {"if x then 1 else z", "x z"},
		{"x fby y", "x"}, {"1 fby y", ""}, {"x fby 1", "x"}, {"x -> y", "x y"}, {"1 -> y", "y"}, {"pre x", ""}, {"pre 1", ""},
		{"x when A(c)", "c x"}, {"1 when A(c)", "c"}, {"c when A(c)", "c"},
		{"merge c (A -> x | B -> y)", "c x y"}, {"merge c (A -> 1)", "c"}, {"merge c (A -> y | B -> x | C -> c)", "c y x"},
		{"f(x)", "x"}, {"f(1)", ""}, {"f(x, y, z)", "x y z"}, {"f[g, h](x)", "x"}, {"f[x, y](z)", "z"}, {"f(f)", "f"},
		{"f(x) every c", "x c"}, {"f(1) every c", "c"}, {"f(x) every 1", "x"}, {"f[g](x, y) every x", "x y"},
	} {
		checkReads(t, x.text, expr(t, x.text), x.want)
	}
}

// P11.1: the variable that a match names is not read: a match counts as every other expression.
func TestReadsOfMatch(t *testing.T) {
	checkReads(t, "match", expr(t, "match c (A -> x | B -> y)"), "x y")
	checkReads(t, "match", expr(t, "match c (A -> 1)"), "")
	checkReads(t, "match", expr(t, "match c (A -> x | B -> c + y)"), "x c y")
}

// P11.1: a name is told once, where it first occurs: ahead of the names in the kids, and these in their order.
func TestOrderOfReads(t *testing.T) {
	for _, x := range []struct{ text, want string }{
		{"x + x", "x"}, {"x + y + x", "x y"}, {"y + x + y + z", "y x z"}, {"(z - y) * (y - x)", "z y x"},
		{"(y + c) when A(c)", "c y"}, {"(a when A(b)) when B(c)", "c b a"}, {"merge c (A -> y when A(c) | B -> x when B(c))", "c y x"},
		{"x + (y when A(x))", "x y"}, {"merge b (A -> merge a (A -> d | B -> c) | B -> a)", "b a d c"},
		{"if c then c when A(b) else merge a (A -> b | B -> c)", "c b a"},
		{"f(g(y), x) every h(x, z)", "y x z"}, {"f(z -> y, x fby w) every (pre v)", "z y x"},
		{"a -> b -> a", "a b"}, {"a fby b fby c", "a"}, {"(a fby b) fby c", "a"}, {"(a -> b) fby c", "a b"}, {"(pre a) fby b", ""}, {"pre (a -> b)", ""},
		{"a fby (b -> c) -> d", "a d"}, {"merge pre1 (A -> pre a | B -> b fby a)", "pre1 b"}, {"(pre a) when A(c)", "c"}, {"pre (a when A(c))", ""},
		{"(a fby b) + b + a", "a b"}, {"(pre b) + a + b", "a b"}, {"b + (a fby b) + (pre c)", "b a"},
	} {
		checkReads(t, x.text, expr(t, x.text), x.want)
	}
}

// P11.1: an expression need not be well-formed.
func TestReadsOfWrongTrees(t *testing.T) {
	x, y, z := variable("x"), variable("y"), variable("z")
	named := func(op int, name string, kids ...api.Expr) api.Expr {
		return api.Expr{Op: op, Name: name, Cons: []string{"p", "q"}, Kids: kids}
	}
	for _, a := range []struct {
		what string
		e    api.Expr
		want string
	}{
		{"nothing", api.Expr{}, ""},
		{"a variable with kids", variable("x", y, z, x), "x y z"},
		{"a variable in a variable", variable("x", variable("y", variable("z", x))), "x y z"},
		{"a fby without kids", with(api.Fby), ""}, {"a fby with one kid", with(api.Fby, x), "x"}, {"a fby with three kids", with(api.Fby, x, y, z), "x"},
		{"a pre without kids", with(api.Pre), ""}, {"a pre with three kids", with(api.Pre, x, y, z), ""},
		{"an arrow without kids", with(api.Arrow), ""}, {"an arrow with three kids", with(api.Arrow, y, x, z), "y x z"},
		{"a when without kids", named(api.When, "x"), "x"}, {"a when with kids", named(api.When, "x", z, x, y), "x z y"}, {"a when without a constructor", api.Expr{Op: api.When, Name: "x"}, "x"},
		{"a merge without kids", named(api.Merge, "x"), "x"}, {"a merge with too many kids", named(api.Merge, "x", y, y, z), "x y z"},
		{"a match without kids", named(api.Match, "x"), ""}, {"a match with too many kids", named(api.Match, "x", y, y, z), "y z"},
		{"an int with kids", with(api.Int, x, y), "x y"}, {"a bool with kids", with(api.Bool, x, y), "x y"}, {"a constructor with kids", named(api.Con, "C", x, y), "x y"},
		{"an int with a name", named(api.Int, "x"), ""}, {"a constructor with the name of a variable", named(api.Con, "x"), ""},
		{"a unary without kids", named(api.Un, "-"), ""}, {"a unary with a wrong name", named(api.Un, "x", y, z), "y z"},
		{"a binary with one kid", named(api.Bin, "x", y), "y"}, {"a binary with three kids", named(api.Bin, "+", y, x, z), "y x z"},
		{"an if with one kid", with(api.If, z), "z"}, {"an if with four kids", with(api.If, z, x, y, variable("w")), "z x y w"},
		{"a call without kids", named(api.Call, "x"), ""}, {"a call of something", named(api.Call, "x", y, x), "y x"},
		{"an every without kids", with(api.Every), ""}, {"an every of no call", with(api.Every, z, y, x), "z y x"}, {"an every with a name", named(api.Every, "x", z), "z"},
		{"a cell", named(api.Mem, "x", y, z), "y z"}, {"an unknown Op", named(17, "x", y, z), "y z"}, {"an Op below 0", named(-1, "x", z, y), "z y"}, {"a great Op", named(1<<62, "x", z), "z"},
	} {
		checkReads(t, a.what, a.e, a.want)
		checkReads(t, a.what+" in a binary", with(api.Bin, a.e, a.e), a.want)
		checkReads(t, a.what+" in a pre", with(api.Pre, a.e), "")
		checkReads(t, a.what+" in a fby", with(api.Fby, a.e, variable("u")), a.want)
		checkReads(t, a.what+" behind a fby", with(api.Fby, variable("u"), a.e), "u")
		checkReads(t, a.what+" in what is nothing", with(0, a.e), a.want)
	}
}

// P11.1: a name may be any text, and those are the same that have the same bytes.
func TestReadsOfAnyNames(t *testing.T) {
	names := []string{"", " ", "X", "x", "_x", "x ", "\x00", "\xff", "x\ny", "not"}
	var kids []api.Expr
	for _, s := range append(names, names...) {
		kids = append(kids, variable(s))
	}
	if got := cause.Reads(with(api.Call, kids...)); !slices.Equal(got, names) {
		t.Errorf("%q, want %q", got, names)
	}
	for _, op := range []int{api.Var, api.When, api.Merge} {
		if got := cause.Reads(api.Expr{Op: op, Kids: kids}); !slices.Equal(got, names) {
			t.Errorf("%q for the Op %d, want %q", got, op, names)
		}
	}
}

// P11.1, W0: expressions may be deep, or have many kids.
func TestReadsOfLarge(t *testing.T) {
	const levels = 1 << 16
	e := variable("x")
	for range levels {
		e = with(api.Un, e)
	}
	checkReads(t, "a deep one", e, "x")
	var kids []api.Expr
	var names []string
	for i := range levels {
		names = append(names, "z"+strconv.Itoa(i))
		kids = append(kids, variable(names[i]), variable(names[i/2]))
	}
	checkReads(t, "a broad one", with(api.Call, kids...), strings.Join(names, " "))
}

// R4: an expression is not changed, and each answer is new memory.
func TestMemoryOfReads(t *testing.T) {
	e := expr(t, "merge c (A -> f(x, y) every (c + z) | B -> w when B(c))")
	before, want := show(e), []string{"c", "x", "y", "z", "w"}
	one, again := cause.Reads(e), cause.Reads(e)
	for i := range one[:cap(one)] {
		one[:cap(one)][i] = "changed"
	}
	if !slices.Equal(again, want) || !slices.Equal(cause.Reads(e), want) {
		t.Errorf("%q after a change of another answer, want %q", again, want)
	}
	if show(e) != before {
		t.Errorf("%s is changed to %s", before, show(e))
	}
}

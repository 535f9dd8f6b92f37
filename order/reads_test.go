package order_test

import (
	"slices"
	"strconv"
	"strings"
	"testing"

	"pendule/api"
	"pendule/order"
)

// checkReads holds what an equation reads, written with spaces between the names.
func checkReads(t *testing.T, q api.NEq, want string) {
	t.Helper()
	if got := order.Reads(q); !slices.Equal(got, strings.Fields(want)) {
		t.Errorf("Reads(%s) = %q, want %q", show(q), got, want)
	}
}

// P15.1: the names of E, then Reset, then those of the clock, each once, where it first occurs.
func TestReads(t *testing.T) {
	for _, x := range []struct{ text, want string }{
		{"y = 1", ""}, {"y = x", "x"}, {"y = x + z", "x z"}, {"y = z + x + z", "z x"}, {"y = y", "y"}, {"y = if c then x else z", "c x z"},
		{"y = x when True(c)", "c x"}, {"y = merge c (False -> x | True -> z)", "c x z"},
		{"y flag", ""}, {"y memory t", "t"}, {"y memory y", "y"}, {"y, z call g(x)", "x"}, {"y call g(x, z + w)", "x z w"}, {"y call g[h](x)", "x"},
		{"y call g(x) reset r", "x r"}, {"y call g(r) reset r", "r"}, {"y call g(r, x) reset x", "r x"}, {"y call g(1) reset r", "r"}, {"y call g(x) reset y", "x y"},
		{"y @c=True = 1", "c"}, {"y @c=True = x", "x c"}, {"y @c=True @d=False = x", "x c d"}, {"y @d=True @c=False = x", "x d c"},
		{"y @c=True = c + x", "c x"}, {"y @c=True = x + c", "x c"}, {"y @c=True @c=False = 1", "c"}, {"y @c=True @d=True @c=True = 1", "c d"},
		{"y @c=True = x when True(c)", "c x"}, {"y @c=True flag", "c"}, {"y @c=True @d=A flag", "c d"}, {"y @c=True memory t", "t c"}, {"y @y=True memory t", "t y"},
		{"y @c=True call g(x) reset r", "x r c"}, {"y @r=True call g(x) reset r", "x r"}, {"y @c=True @x=A @r=B @d=C call g(x, z) reset r", "x z r c d"},
	} {
		checkReads(t, equation(t, x.text), x.want)
	}
}

// P15.1: what E reads is what layer 11 says, where E is not pure, too.
func TestReadsOfDelays(t *testing.T) {
	for _, x := range []struct{ text, want string }{
		{"y = pre x", ""}, {"y = x fby z", "x"}, {"y = x -> z", "x z"}, {"y = z + pre x", "z"}, {"y = g(x) every c", "x c"}, {"y = match c (A -> x | B -> z)", "x z"},
		{"y @x=True = pre x", "x"}, {"y @z=True @x=True = x fby z", "x z"}, {"y call pre x reset x", "x"}, {"y memory x fby z", "x"}, {"y memory merge c (A -> x)", "c x"},
	} {
		checkReads(t, equation(t, x.text), x.want)
	}
}

// P15.1: an equation of any sort reads whatever stands in its fields, and not its Names.
func TestReadsOfAnySort(t *testing.T) {
	for _, sort := range []int{api.NExp, api.NFlag, api.NMem, api.NCall, 0, 5, -1, 1 << 62} {
		q := equation(t, "a, b @c=True @d=A = x + z reset r")
		q.Sort = sort
		checkReads(t, q, "x z r c d")
		q.Reset = ""
		checkReads(t, q, "x z c d")
		checkReads(t, api.NEq{Sort: sort}, "")
		checkReads(t, api.NEq{Sort: sort, Names: []string{"a", "b"}}, "")
		checkReads(t, api.NEq{Sort: sort, Reset: "r"}, "r")
		checkReads(t, api.NEq{Sort: sort, E: api.Expr{Op: 17, Name: "f", Kids: []api.Expr{variable("x"), variable("y")}}}, "x y")
	}
}

// P15.1: a name may be any text. An empty one is read, but for an empty Reset, which is none.
func TestReadsOfAnyNames(t *testing.T) {
	names := []string{"X", "", " ", "x", "_x", "\x00", "\xff", "x\ny"}
	var q api.NEq
	for _, s := range slices.Concat(names, names) {
		q.Clock = append(q.Clock, api.Sample{Var: s, Con: "True"})
	}
	if got := order.Reads(q); !slices.Equal(got, names) {
		t.Errorf("%q, want %q", got, names)
	}
	for _, s := range names {
		want := []string{s}
		if s == "" {
			want = nil
		}
		if got := order.Reads(api.NEq{Reset: s}); !slices.Equal(got, want) {
			t.Errorf("%q of the reset %q", got, s)
		}
		if got := order.Reads(api.NEq{E: variable(s)}); !slices.Equal(got, []string{s}) {
			t.Errorf("%q of the variable %q", got, s)
		}
	}
}

// P15.1, W0: equations may be large.
func TestReadsOfLarge(t *testing.T) {
	const many = 1 << 16
	q := api.NEq{E: api.Expr{Op: api.Call}, Reset: "r"}
	var names, samples []string
	for i := range many {
		names, samples = append(names, "z"+strconv.Itoa(i)), append(samples, "c"+strconv.Itoa(i))
		q.E.Kids = append(q.E.Kids, variable(names[i]), variable(names[i/2]))
		q.Clock = append(q.Clock, api.Sample{Var: samples[i]}, api.Sample{Var: names[i]})
	}
	if got := order.Reads(q); !slices.Equal(got, slices.Concat(names, []string{"r"}, samples)) {
		t.Errorf("%d names", len(got))
	}
	deep := variable("x")
	for range many {
		deep = api.Expr{Op: api.Un, Kids: []api.Expr{deep}}
	}
	if got := order.Reads(api.NEq{E: deep}); !slices.Equal(got, []string{"x"}) {
		t.Errorf("%q", got)
	}
}

// R4: an equation is not changed, and each answer is new memory.
func TestMemoryOfReads(t *testing.T) {
	q := equation(t, "u, v @c=True @d=A call g(x, y) reset r")
	before, want := show(q), []string{"x", "y", "r", "c", "d"}
	one, again := order.Reads(q), order.Reads(q)
	clear(one[:cap(one)])
	if !slices.Equal(again, want) || !slices.Equal(order.Reads(q), want) {
		t.Errorf("%q after a change of another answer, want %q", again, want)
	}
	if show(q) != before {
		t.Errorf("%s is changed to %s", before, show(q))
	}
}

package order_test

import (
	"slices"
	"strconv"
	"testing"

	"pendule/api"
	"pendule/order"
)

// P15.1: the example of the chapter.
func TestExample(t *testing.T) {
	checkOrder(t, "v0 = y + x; v1 flag; v2 memory v0; y = if v1 then 0 else v2", 3, 0, 1, 2)
	l := normalized(t, program(t, "node f (x) = (y) where y = 0 fby y + x; end"))
	checkNode(t, l[0], []int{3, 0, 1, 2})
}

// P15.1: an equation comes after those that compute what it reads, and otherwise the smallest index comes first.
func TestComputed(t *testing.T) {
	checkOrder(t, "y = x", 0)
	checkOrder(t, "y = x; z = x; w = c", 0, 1, 2)
	checkOrder(t, "y = z; z = x", 1, 0)
	checkOrder(t, "w = z; z = y; y = x", 2, 1, 0)
	checkOrder(t, "y = w; z = y; w = 2; v = 3", 2, 0, 1, 3)
	checkOrder(t, "y = v; z = w; w = 2; v = 3", 2, 1, 3, 0)
	checkOrder(t, "y = v + w; z = 1; v = z; w = u; u = 2", 1, 2, 4, 3, 0)
	checkOrder(t, "y call g(z); z = x", 1, 0)
	checkOrder(t, "y = u; u, v call g(x)", 1, 0)
	checkOrder(t, "y = v; u, v call g(x)", 1, 0)
	checkOrder(t, "y = u + v; z = w; u, v, w call g(x); w2 = v", 2, 0, 1, 3)
	checkOrder(t, "y call g(u, x); u call g(x, z); z = x", 2, 1, 0)
	checkOrder(t, "y = merge c (False -> x | True -> z); z @c=True = 1; c = d", 2, 1, 0)
	checkOrder(t, "y = z when True(c); z = 1; c = d", 1, 2, 0)
	checkOrder(t, "y = x; z = y + y; w = z + y", 0, 1, 2)
}

// P15.1: what the Reset of an equation names, and what its clock names, it reads as well.
func TestResetsAndClocks(t *testing.T) {
	checkOrder(t, "y call g(x) reset r; r = c", 1, 0)
	checkOrder(t, "y call g(r) reset r; r = c", 1, 0)
	checkOrder(t, "y call g(x) reset r; z = r; r call g(x)", 2, 0, 1)
	checkOrder(t, "y = x reset r; r = c", 1, 0)
	checkOrder(t, "i flag; i2 flag reset r; r = c", 0, 2, 1)
	checkOrder(t, "y @c=True = 1; c = d", 1, 0)
	checkOrder(t, "y @c=True call g(x) reset r; r = d; c = d", 1, 2, 0)
	checkOrder(t, "y @a=True @b=False = 1; b = x; a = x", 1, 2, 0)
	checkOrder(t, "y @a=True @b=False = 1; b @a=True = x; a = x", 2, 1, 0)
	checkOrder(t, "i @c=True flag; c = d", 1, 0)
	checkOrder(t, "m @c=True memory t; c = d; t = x", 1, 2, 0)
	checkOrder(t, "m @c=True memory t; t @c=True = x; c = d", 2, 1, 0)
}

// P15.1: a memory has its old value before it is written, so it comes after what reads it, and after what it reads.
func TestMemories(t *testing.T) {
	checkOrder(t, "i flag", 0)
	checkOrder(t, "i flag; y = i", 1, 0)
	checkOrder(t, "i flag; y = x; z = i + y; w = x; v call g(i)", 1, 2, 3, 4, 0)
	checkOrder(t, "i flag; y call g(x) reset i", 1, 0)
	checkOrder(t, "i flag; y @i=True = x", 1, 0)
	checkOrder(t, "i flag; y = merge i (False -> 1 | True -> 2)", 1, 0)
	checkOrder(t, "m memory t", 0)
	checkOrder(t, "m memory t; t = x", 1, 0)
	checkOrder(t, "m memory t; y = m", 1, 0)
	checkOrder(t, "m memory t; y = m; t = y", 1, 2, 0)
	checkOrder(t, "m memory t; t = m", 1, 0)
	checkOrder(t, "y = m; m memory t; t = y", 0, 2, 1)
	checkOrder(t, "a = if i then 0 else m; i flag; m memory t; t = b; b = if j then 1 else n; j flag; n memory u; u = a", 0, 1, 4, 3, 2, 5, 7, 6)
	// A memory that is written by what reads another one comes first.
	checkOrder(t, "m memory t; k memory m; t = x", 1, 2, 0)
	checkOrder(t, "m memory t; k memory m; i memory k", 2, 1, 0)
	checkOrder(t, "i flag; m @i=True memory t; j @m=True flag", 2, 1, 0)
	checkOrder(t, "m memory t; i flag reset m", 1, 0)
}

// P15.1: where an equation needs itself, by way of others or not, there is no order.
func TestCircles(t *testing.T) {
	checkNone(t, "y = y", "y call g(y)", "y, z call g(z)", "y call g(x) reset y", "y @y=True = 1", "z = x; y @z=True @y=True call g(x)",
		"y = z; z = y", "y call g(z); z = y + 1", "y call g(x) reset r; r = y", "y @c=True = 1; c = y", "c = merge d (False -> 0 | True -> y); y @d=True = x; d = c",
		"a = b; b = c; c = d; d = a", "a = x; b = a + d; c = b; d = c",
		"m memory k; k memory m", "i @j=True flag; j @i=True flag", "m memory k; k memory l; l memory m", "i flag reset m; m memory i")
	// What needs a circle has no place either.
	checkNode(t, node(t, "y = y; z = y; w = x"), nil)
	checkNode(t, node(t, "w = x; m memory y; y = y"), nil)
	checkNode(t, node(t, "m memory t; y = m + y"), nil)
}

// P15.1: a memory does not wait for itself.
func TestSelfReading(t *testing.T) {
	checkOrder(t, "m memory m", 0)
	checkOrder(t, "m memory m; y = m", 1, 0)
	checkOrder(t, "m memory m; k memory m", 1, 0)
	checkOrder(t, "i @i=True flag; y = i", 1, 0)
	checkOrder(t, "i flag reset i; y @i=True = 1", 1, 0)
	checkOrder(t, "m @m=True memory m; y = m; m2 @m=True flag", 1, 2, 0)
}

// P15.1: if several equations have a name, those that read it need the first one of them, if that computes it; but a memory comes after all that read it in any case.
func TestNamesOfSeveral(t *testing.T) {
	checkOrder(t, "y = 1; z = y; y = z", 0, 1, 2)
	checkOrder(t, "z = y; y = x; y = w; w = x", 1, 0, 3, 2)
	checkOrder(t, "y memory t; z = y; y = z", 1, 0, 2)
	checkOrder(t, "z = y; y memory t; y = z", 0, 1, 2)
	checkOrder(t, "y = x; z = y; y memory t", 0, 1, 2)
	checkOrder(t, "y memory t; y = z; z = x", 0, 2, 1)
	checkNone(t, "y = z; y memory t; z = y", "u = y; y call g(x) reset z; y flag; z = u")
	checkOrder(t, "m memory t; m flag; y = m", 2, 0, 1)
	checkOrder(t, "m memory m; m memory t", 0, 1)
	checkOrder(t, "m memory t; m memory m", 1, 0)
	checkOrder(t, "m memory t; m memory m; m flag; y = m", 3, 1, 0, 2)
	checkNone(t, "m memory m; m memory m", "m memory m; y = m; i flag; m flag reset m")
	// A name may be there twice in one equation.
	checkOrder(t, "y = u; u, u call g(x)", 1, 0)
	checkOrder(t, "y = u; z = u; u, v, u call g(x); u = y", 2, 0, 1, 3)
	checkOrder(t, "m, m memory t; y = m", 1, 0)
}

// P15.1: of the names of a memory only the first one makes it wait; the others are memories all the same.
func TestNamesOfMemories(t *testing.T) {
	checkOrder(t, "m, k memory t; y = m", 1, 0)
	checkOrder(t, "m, k memory t; y = k", 0, 1)
	checkOrder(t, "i, j flag; k = j; y = i; j = y", 1, 2, 0, 3)
	checkOrder(t, "y = k; m, k memory t; t = y; k = t", 0, 2, 1, 3)
	checkOrder(t, "flag; y = x; memory y; = y", 0, 1, 2, 3)
	checkOrder(t, "memory y; y = x; call g(y) reset y; z = z2; z2 = y", 1, 0, 2, 4, 3)
}

// P15.1: an equation of no known sort is no memory, and computes nothing, but it reads.
func TestOtherSorts(t *testing.T) {
	for _, sort := range []int{0, 5, -1, 1 << 62} {
		check := func(equations string, want ...int) {
			t.Helper()
			n := node(t, equations)
			for b := range n.Eqs {
				if n.Eqs[b].Sort == 0 {
					n.Eqs[b].Sort = sort
				}
			}
			checkNode(t, n, want)
		}
		check("y other y", 0)
		check("y = z; z other x", 0, 1)
		check("y other z; z = x", 1, 0)
		check("y other z; z other y", 0, 1)
		check("y other x; z = y; y = z", 0, 1, 2)
		check("y other x; z = y", 0, 1)
		check("m memory t; y other m", 1, 0)
		check("i flag; y other x reset i; z @i=True other x", 1, 2, 0)
		check("m memory t; t other m", 1, 0)
	}
}

// P15.1: the Ins, the Outs and the Vars of a node do not matter, and neither do names that no equation has.
func TestEquationsOnly(t *testing.T) {
	n := node(t, "y = x; x = z + w; m memory x")
	checkNode(t, n, []int{1, 0, 2})
	n.Ins, n.Outs, n.Name = []string{"x", "m", "y"}, nil, ""
	n.Vars = []api.Named{{Name: "y", Clock: api.Clock{{Var: "m", Con: "True"}}}, {Name: "x", Clock: api.Clock{{Var: "y", Con: "True"}}}}
	checkNode(t, n, []int{1, 0, 2})
	checkNode(t, api.NNode{}, []int{})
	checkNode(t, api.NNode{Eqs: []api.NEq{{}, {}}}, []int{0, 1})
	// An empty name is a name, but an empty Reset is none.
	e, r := variable(""), api.NEq{Sort: api.NExp, Names: []string{""}}
	checkNode(t, api.NNode{Eqs: []api.NEq{{Sort: api.NExp, Names: []string{"y"}, E: e}, r}}, []int{1, 0})
	checkNode(t, api.NNode{Eqs: []api.NEq{{Sort: api.NFlag, Names: []string{""}}, {E: e}}}, []int{1, 0})
	checkNode(t, api.NNode{Eqs: []api.NEq{{Sort: api.NExp, Names: []string{"y"}, Clock: api.Clock{{}}}, r}}, []int{1, 0})
	checkNode(t, api.NNode{Eqs: []api.NEq{{Sort: api.NCall, Names: []string{"y"}}, r}}, []int{0, 1})
}

// P15.1: an expression need not be pure, and is read as layer 11 says.
func TestImpure(t *testing.T) {
	checkOrder(t, "y = pre y", 0)
	checkOrder(t, "y = 0 fby z; z = y", 0, 1)
	checkOrder(t, "y = z fby y; z = pre y", 1, 0)
	checkOrder(t, "y = g(z) every w; z = x; w = x", 1, 2, 0)
	checkOrder(t, "m memory t; y = pre m; z = m fby m", 1, 2, 0)
	checkNone(t, "y = 0 -> y", "z = x; y = y fby z")
}

// P15.1, W0: nodes may be large: each equation may read the one ahead of it, the one behind it, or memories that have one name.
func TestLarge(t *testing.T) {
	const many = 1 << 16
	var up, down, flags, selfish, readers api.NNode
	var forth []int
	for i := range many {
		name := func(i int) string { return "y" + strconv.Itoa(i) }
		up.Eqs = append(up.Eqs, api.NEq{Sort: api.NExp, Names: []string{name(i)}, E: variable(name(i - 1))})
		down.Eqs = append(down.Eqs, api.NEq{Sort: api.NCall, Names: []string{name(i)}, Reset: name(i + 1)})
		flags.Eqs = append(flags.Eqs, api.NEq{Sort: api.NFlag, Names: []string{"m"}})
		selfish.Eqs = append(selfish.Eqs, api.NEq{Sort: api.NMem, Names: []string{"m"}, E: variable("m")})
		readers.Eqs = append(readers.Eqs, api.NEq{Sort: api.NExp, Names: []string{name(i)}, E: variable("m")})
		forth = append(forth, i)
	}
	check := func(what string, n api.NNode, want []int) {
		t.Helper()
		if got, ok := order.Make(n); !slices.Equal(got, want) || ok != (want != nil) {
			t.Errorf("%s: %v, and not the order it has to be", what, ok)
		}
	}
	back := slices.Clone(forth)
	slices.Reverse(back)
	check("a way up", up, forth)
	check("a way down", down, back)
	check("flags", flags, forth)
	check("memories that read each other", selfish, nil)
	selfish.Eqs = selfish.Eqs[:1]
	check("readers of a memory", api.NNode{Eqs: slices.Concat(selfish.Eqs, readers.Eqs[1:])}, append(slices.Clone(forth[1:]), 0))
	const half = many / 2
	check("readers of many memories", api.NNode{Eqs: slices.Concat(flags.Eqs[:half], readers.Eqs[half:])}, slices.Concat(forth[half:], forth[:half]))
	down.Eqs[many-1].Reset = "y0"
	check("a circle", down, nil)
}

// R4: a node is not changed, and each answer is new memory.
func TestMemoryOfMake(t *testing.T) {
	n := node(t, "i flag; m @c=True memory u; u, v call g(x, y) reset i; y = if i then 0 else m; c = d")
	before, want := show(n), []int{3, 2, 0, 4, 1}
	one, _ := order.Make(n)
	again, _ := order.Make(n)
	clear(one[:cap(one)])
	if !slices.Equal(again, want) {
		t.Errorf("%v after a change of another answer, want %v", again, want)
	}
	checkNode(t, n, want)
	if show(n) != before {
		t.Errorf("%s is changed to %s", before, show(n))
	}
}

package streams_test

import (
	"slices"
	"strconv"
	"testing"

	"pendule/api"
)

// R4: neither the program nor the rows are changed, and nothing of them is kept.
func TestArguments(t *testing.T) {
	const text = prelude + "node main (x, c) = (y, z) where y = total(x) every c; w = x when True(c); z = merge c (False -> 0 | True -> 5 fby w); end"
	p := program(t, text)
	before := show(p)
	y := begun(t, p, "main")
	ins := []int64{7, 1}
	checkStep(t, y, "7; 5", ins...)
	if ins[0] != 7 || ins[1] != 1 || show(p) != before {
		t.Errorf("%v, %s", ins, show(p))
	}
	ins[0], ins[1] = 1000, 0
	for k := range p.Nodes {
		for _, e := range exprsOf(&p.Nodes[k]) {
			*e = api.Expr{Op: api.Int, N: 99}
		}
		p.Nodes[k].Name, p.Nodes[k].Ins[0], p.Nodes[k].Outs[0], p.Nodes[k].Items[0].Names[0] = "", "", "", ""
	}
	p.Enums[0].Cons[0] = ""
	checkStep(t, y, "9; 0", 2, 0)
	checkStep(t, y, "3; 7", 3, 1)
	y.Begin()
	checkStep(t, y, "4; 5", 4, 1)
}

// R4: what is returned is new memory, each list of it apart.
func TestResults(t *testing.T) {
	p := program(t, prelude+"node main (x) = (y, z) where (y, z) = swap(0 fby z, x); end")
	y := begun(t, p, "main")
	first, _ := y.Step([]int64{5})
	second, _ := y.Step([]int64{6})
	want := slices.Clone(second)
	clear(first[:cap(first)])
	if !slices.Equal(second, want) {
		t.Errorf("%v is changed to %v", want, second)
	}
	clear(second[:cap(second)])
	checkStep(t, y, "7; 0", 7)
	l := played(t, p, "main", [][]int64{{1}, {2}, {3}})
	clear(l[1][:cap(l[1])])
	if got := showStreams([][]api.Cell{l[0], l[2]}); got != "1 3; 0 0" {
		t.Errorf("the other rows are changed to %s", got)
	}
	m := played(t, p, "main", [][]int64{{1}, {2}, {3}})
	clear(l)
	if got := showStreams(m); got != "1 2 3; 0 0 0" {
		t.Errorf("another result is changed to %s", got)
	}
}

// W0: a node of the greatest weight and about the greatest size, with as many instants as there may be, ends.
func TestGreatest(t *testing.T) {
	p := program(t, heavy)
	y := api.Expr{Op: api.Var, Name: "y"}
	e := y // of the size 16
	for range 5 {
		e = api.Expr{Op: api.Bin, Name: "+", Kids: []api.Expr{{Op: api.Pre, Kids: []api.Expr{y}}, e}}
	}
	for i := range (api.MaxSize - 1) / 16 {
		p.Nodes[0].Items = append(p.Nodes[0].Items, api.Item{Eq: api.Eq{Names: []string{"_z" + strconv.Itoa(i)}, E: e}})
	}
	var script [][]int64
	for i := range api.MaxSteps {
		script = append(script, []int64{int64(i)})
	}
	const leaves = 9 * 11 * 9
	for i, row := range played(t, p, "h3", script) {
		if want := int64(leaves * i); row[0] != (api.Cell{Kind: api.Value, N: want}) {
			t.Fatalf("the instant %d: %v, want %d", i, row[0], want)
		}
	}
}

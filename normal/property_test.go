package normal_test

import (
	"reflect"
	"slices"
	"strconv"
	"testing"

	"pendule/api"
	"pendule/normal"
	"pendule/streams"
	"pendule/types"
)

// checkMade holds what is made of p against what the judge says, and returns a word for that.
func checkMade(t *testing.T, p api.Program) string {
	t.Helper()
	before := show(p)
	want := judgedFault(p)
	l, f := normal.Make(p)
	if f != want || f.Err != api.OK && len(l) > 0 {
		t.Fatalf("Make(%s): %d nodes, fault %v, want %v", text(p), len(l), f, want)
	}
	if show(p) != before {
		t.Fatalf("%s is changed to %s", before, show(p))
	}
	if f.Err != api.OK {
		return "error " + strconv.Itoa(int(f.Err))
	}
	if err := judged(p, l); err != nil {
		t.Fatalf("Make(%s): %s, which the judge refuses: %v", text(p), showNodes(l), err)
	}
	return "normal"
}

// checkMeaning holds that the normal nodes of p mean what layer 13 says of p, for a script that is drawn, if the node can be played.
func checkMeaning(t *testing.T, m *maker, p api.Program, node string, rows int) string {
	t.Helper()
	infos, f := types.Infer(p)
	if f.Err != api.OK {
		return "unplayed"
	}
	k := slices.IndexFunc(p.Nodes, func(n api.Node) bool { return n.Name == node })
	script := m.script(p, infos[k].Sig.Ins, rows)
	want, f := streams.Run(p, node, script)
	if f.Err != api.OK {
		return "unplayed"
	}
	l := made(t, p)
	if got := (player{p, l}).outs(node, script); !reflect.DeepEqual(got, want) {
		t.Fatalf("%s, made of %s, yields for %v: %v, want %v", showNodes(l), text(p), script, got, want)
	}
	if slices.ContainsFunc(slices.Concat(want...), func(c api.Cell) bool { return c.Kind == api.Nil }) {
		return "undefined"
	}
	return "defined"
}

// checkCounts fails where something was drawn too seldom.
func checkCounts(t *testing.T, count, least map[string]int) {
	t.Helper()
	t.Log(count)
	for what, n := range least {
		if count[what] < n {
			t.Errorf("%s: %d times only", what, count[what])
		}
	}
}

// features counts what a program has: expressions, whole and as kids, items with several names, and samples.
func features(p api.Program, count map[string]int) {
	for _, n := range p.Nodes {
		for _, i := range n.Items {
			if len(i.Names) > 1 {
				count["several names"]++
			}
			count["whole "+strconv.Itoa(i.E.Op)]++
			for _, e := range pointers(&i.E)[1:] {
				count["kid "+strconv.Itoa(e.Op)]++
			}
		}
	}
}

// taken gives some variables of each node of p names that new variables could have.
func (m *maker) taken(p api.Program) api.Program {
	for k := range p.Nodes {
		first := api.Program{Enums: p.Enums, Nodes: p.Nodes[:k+1]}
		from := varsOf(p.Nodes[k])
		m.Shuffle(len(from), func(i, j int) { from[i], from[j] = from[j], from[i] })
		from = from[:m.Intn(len(from)+1)]
		var to []string
		for _, n := range m.Perm(2*len(from) + 4)[:len(from)] {
			to = append(to, "_v"+strconv.Itoa(n))
		}
		p.Nodes[k] = named(first, from, to).Nodes[k]
	}
	return p
}

// P14.1, P14.2: programs that are drawn with types, clocks and no circles, and those with something changed, are normalized as the judge says.
func TestDrawn(t *testing.T) {
	for seed := range int64(4) {
		t.Run(strconv.Itoa(int(seed)), func(t *testing.T) {
			t.Parallel()
			m, count := newMaker(seed), map[string]int{}
			for range 100 {
				p := m.program(1 + m.Intn(4))
				features(p, count)
				word := checkMade(t, p)
				if word != "normal" && word != "error 5" {
					t.Fatalf("%s is drawn to be normalized: %s", text(p), word)
				}
				count[word]++
				q := m.taken(clone(p))
				if got := checkMade(t, q); got != word {
					t.Fatalf("%s: %s, but %s", text(q), got, word)
				}
				for range 6 {
					q := m.mutant(p)
					count["mutant "+checkMade(t, q)]++
					q = m.mutant(m.taken(q))
					count["mutant "+checkMade(t, q)]++
				}
			}
			least := map[string]int{"normal": 80, "several names": 20, "mutant normal": 200, "mutant error 1": 10, "mutant error 5": 50, "mutant error 6": 20, "mutant error 8": 10}
			for op := api.Int; op <= api.Every; op++ {
				if op != api.Match {
					least["kid "+strconv.Itoa(op)], least["whole "+strconv.Itoa(op)] = 40, 10
				}
			}
			checkCounts(t, count, least)
		})
	}
}

// W1: normal nodes mean what the program means of which they are made.
func TestMeaning(t *testing.T) {
	for seed := range int64(4) {
		t.Run(strconv.Itoa(int(seed)), func(t *testing.T) {
			t.Parallel()
			m, count := newMaker(100+seed), map[string]int{}
			for range 120 {
				p := m.program(1 + m.Intn(4))
				for _, n := range p.Nodes {
					count[checkMeaning(t, m, p, n.Name, 8)]++
				}
				for range 3 {
					q := m.taken(m.mutant(p))
					count["mutant "+checkMeaning(t, m, q, q.Nodes[len(q.Nodes)-1].Name, 8)]++
				}
			}
			checkCounts(t, count, map[string]int{"defined": 80, "undefined": 40, "mutant defined": 30, "mutant undefined": 30})
		})
	}
}

// P14.1: a node is normalized alone: what is made of it does not depend on the later nodes.
func TestFirstNodes(t *testing.T) {
	m := newMaker(31)
	for range 100 {
		p := m.program(4)
		if judgedFault(p).Err != api.OK {
			continue
		}
		whole := made(t, p)
		for k := range p.Nodes {
			part := made(t, api.Program{Enums: p.Enums, Nodes: p.Nodes[:k+1]})
			if show(part) != show(whole[:k+1]) {
				t.Fatalf("%s: %s, but of the whole %s", text(p), showNodes(part), showNodes(whole))
			}
		}
	}
}

// P14.1: equations that are all pure already, with a variable for each Merge, are normalized as they are.
func TestAgain(t *testing.T) {
	m, count := newMaker(32), 0
	for range 200 {
		p := m.program(1)
		if judgedFault(p).Err != api.OK {
			continue
		}
		l := made(t, p)[0]
		n := api.Node{Name: l.Name, Ins: l.Ins, Outs: l.Outs}
		for _, q := range l.Eqs {
			if q.Sort == api.NExp {
				n.Items = append(n.Items, api.Item{Eq: api.Eq{Names: q.Names, E: q.E}})
			}
		}
		if len(n.Items) < len(l.Eqs) {
			continue
		}
		count++
		again := made(t, api.Program{Enums: p.Enums, Nodes: []api.Node{n}})[0]
		if !slices.EqualFunc(again.Eqs, l.Eqs, func(a, b api.NEq) bool { return showEq(a) == showEq(b) }) {
			t.Fatalf("%s, of %s", showEqs(again), showEqs(l))
		}
	}
	if count < 5 {
		t.Errorf("%d nodes only", count)
	}
}

// W0: programs of any trees have a result.
func TestNoise(t *testing.T) {
	m, count := newMaker(33), map[string]int{}
	for range 300 {
		p := m.program(1 + m.Intn(3))
		for range 10 {
			n := &p.Nodes[m.Intn(len(p.Nodes))]
			e := one(m, exprsOf(n))
			switch m.Intn(8) {
			case 0:
				e.Op += m.Intn(3) - 1
			case 1:
				e.Kids = e.Kids[:m.Intn(len(e.Kids)+1)]
			case 2:
				e.Name = one(m, []string{"", "v0", "+", "not", "C00", "n0", "_v0"})
			case 3:
				e.Cons = append(e.Cons, one(m, []string{"", "True", "n0", "g"}))
			default:
				*e = clone(*one(m, exprsOf(n)))
			}
			count[checkMade(t, p)]++
		}
	}
	checkCounts(t, count, map[string]int{"error 4": 50, "error 5": 100, "error 10": 300, "normal": 100})
}

package special_test

import (
	"slices"
	"strconv"
	"testing"

	"pendule/api"
	"pendule/special"
	"pendule/tree"
	"pendule/types"
)

// checkJudged holds what is made of main in p against what the judge makes, and returns a word for that, or "" if it has none.
func checkJudged(t *testing.T, p api.Program, main string) string {
	t.Helper()
	want, fault, word := judged(p, main)
	if word == "" {
		return ""
	}
	before := show(p)
	got, f := special.Make(p, main)
	if f != fault || !tree.Same(got, want) {
		t.Fatalf("Make(%s, %q) = %s, fault %v, want %s, fault %v", text(p), main, text(got), f, text(want), fault)
	}
	if show(p) != before {
		t.Fatalf("%s is changed to %s", before, show(p))
	}
	if word == "made" {
		checkPromises(t, p, main, got)
	}
	return word
}

// checkPromises holds what P12.2 and P12.3 say of q, which is made of main in p.
func checkPromises(t *testing.T, p api.Program, main string, q api.Program) {
	t.Helper()
	n := p.Nodes[slices.IndexFunc(p.Nodes, func(n api.Node) bool { return n.Name == main })]
	last := q.Nodes[len(q.Nodes)-1]
	if !slices.Equal(last.Ins, n.Ins) || !slices.Equal(last.Outs, n.Outs) {
		t.Fatalf("the last node of %s has other parameters than %s in %s", text(q), main, text(p))
	}
	checkTypes(t, p, main, q)
	// No two nodes that are drawn are alike, and each static parameter is called: nodes that are made are alike only if they are of the same node with the same instances.
	seen := map[string]bool{}
	for _, n := range q.Nodes {
		if len(n.Funs) > 0 || seen[unnamed(n)] {
			t.Fatalf("the node %s in %s, which is made of %s in %s", n.Name, text(q), main, text(p))
		}
		seen[unnamed(n)] = true
	}
	again := made(t, q, last.Name)
	if len(again.Nodes) != len(q.Nodes) || outs(again) != outs(q) && !slices.ContainsFunc(p.Nodes, hasFuns) {
		t.Fatalf("of %s, %s is made again", text(q), text(again))
	}
	if third := made(t, again, last.Name); !tree.Same(again, third) {
		t.Fatalf("of %s, %s is made for the third time", text(again), text(third))
	}
}

func hasFuns(n api.Node) bool { return len(n.Funs) > 0 }

// checkTypes holds that q has types, and that the last node can have the types that main has in p.
func checkTypes(t *testing.T, p api.Program, main string, q api.Program) {
	t.Helper()
	before, _ := types.Infer(p)
	after, f := types.Infer(q)
	if f != (api.Fault{}) {
		t.Fatalf("%s, which is made of %s in %s, has the fault %v", text(q), main, text(p), f)
	}
	k := slices.IndexFunc(p.Nodes, func(n api.Node) bool { return n.Name == main })
	want, got := before[k].Sig, after[len(after)-1].Sig
	with := map[api.Type]api.Type{}
	for i, m := range slices.Concat(got.Ins, got.Outs) {
		w := slices.Concat(want.Ins, want.Outs)[i]
		if m >= 0 {
			with[m] = m
		}
		if old, ok := with[m]; ok && old != w {
			t.Fatalf("%s, which is made of %s in %s, has the types %v, and had %v", text(q), main, text(p), got, want)
		}
		with[m] = w
	}
}

// mains returns names to ask for: those of all nodes, and one that none has.
func mains(p api.Program) []string {
	l := []string{"nowhere"}
	for _, n := range p.Nodes {
		l = append(l, n.Name)
	}
	return l
}

// checkCounts fails where something was drawn too seldom.
func checkCounts(t *testing.T, count, least map[string]int) {
	t.Helper()
	t.Log(count)
	for what, n := range least {
		if count[what] < n {
			t.Errorf("%s: %d times only", what, count[what])
		}
	}
}

// P12.1, P12.2, P12.3: of programs that are drawn with types, and of those with something changed, there is made what the visits of the chapter give, whatever the node is that is asked for.
func TestDrawn(t *testing.T) {
	for seed := range int64(4) {
		t.Run(strconv.Itoa(int(seed)), func(t *testing.T) {
			t.Parallel()
			m, count := newMaker(seed), map[string]int{}
			for range 100 {
				p := m.program(2+m.Intn(8), 80)
				if _, f := types.Infer(p); f != (api.Fault{}) && f.Err != api.ErrBound {
					t.Fatalf("%s is drawn with types, and has the fault %v", text(p), f)
				}
				for _, main := range mains(p) {
					count[checkJudged(t, p, main)]++
				}
				for range 5 {
					q := m.mutant(p)
					count[checkJudged(t, q, one(m, mains(q)))]++
					q = m.mutant(q)
					count[checkJudged(t, q, one(m, mains(q)))]++
				}
			}
			checkCounts(t, count, map[string]int{"made": 300, "nowhere": 100, "Funs": 100, "error 4": 50, "error 5": 50, "error 1": 5})
		})
	}
}

// P12.1, P12.2, P12.3: the same of larger programs, where there may be too many instances.
func TestLarge(t *testing.T) {
	m, count := newMaker(21), map[string]int{}
	for range 300 {
		p := m.program(10+m.Intn(6), 90)
		for range 4 {
			main := p.Nodes[len(p.Nodes)-1-m.Intn(3)].Name
			word := checkJudged(t, p, main)
			if count[word]++; word == "made" {
				count["nodes "+strconv.Itoa(len(made(t, p, main).Nodes))]++
			}
			p = m.mutant(p)
		}
	}
	checkCounts(t, count, map[string]int{"made": 50, "too many": 50})
}

// P12.1: the program that is made is the one that was given, but for names and static arguments: with all that is called in the place of its name, there is no difference.
func TestUnfolded(t *testing.T) {
	m, count := newMaker(31), map[string]int{}
	for range 500 {
		p := m.program(3+m.Intn(7), 80)
		main := p.Nodes[len(p.Nodes)-1]
		q, f := special.Make(p, main.Name)
		if f != (api.Fault{}) {
			count["error "+strconv.Itoa(int(f.Err))]++
			continue
		}
		u := unfolding{}
		want := u.number(p, instance{node: main}, map[string]int{})
		if got := u.number(q, instance{node: q.Nodes[len(q.Nodes)-1]}, map[string]int{}); got != want {
			t.Fatalf("%s, which is made of %s in %s, unfolds to something else", text(q), main.Name, text(p))
		}
		count["made"]++
		count["instances of a node "+strconv.Itoa(mostInstances(q))]++
	}
	checkCounts(t, count, map[string]int{"made": 300, "instances of a node 2": 50, "instances of a node 3": 20})
}

// mostInstances returns the greatest number of nodes of a program that are made of one, and therefore have the same Outs.
func mostInstances(p api.Program) int {
	count, most := map[string]int{}, 0
	for _, n := range p.Nodes {
		count[n.Outs[0]]++
		most = max(most, count[n.Outs[0]])
	}
	return most
}

// P12.3: of a program without Funs, the nodes that are needed are returned unchanged, except for names.
func TestDrawnWithoutFuns(t *testing.T) {
	m, dropped := newMaker(32), 0
	for range 200 {
		p := m.program(1+m.Intn(6), 0)
		for _, n := range p.Nodes {
			q, f := special.Make(p, n.Name)
			if f.Err == api.ErrBound {
				continue
			}
			names := map[string]string{} // of each node that is made, that of the one with the same Outs
			for _, made := range q.Nodes {
				k := slices.IndexFunc(p.Nodes, func(n api.Node) bool { return slices.Equal(n.Outs, made.Outs) })
				names[made.Name] = p.Nodes[k].Name
			}
			for from, to := range names {
				rename(&q, from, to)
			}
			for _, made := range q.Nodes {
				k := slices.IndexFunc(p.Nodes, func(n api.Node) bool { return n.Name == made.Name })
				if !tree.Same(api.Program{Nodes: []api.Node{made}}, api.Program{Nodes: p.Nodes[k : k+1]}) {
					t.Fatalf("of the node %s in %s is made %s", made.Name, text(p), text(q))
				}
			}
			dropped += len(p.Nodes) - len(q.Nodes)
		}
	}
	if dropped < 100 {
		t.Errorf("%d nodes are dropped only", dropped)
	}
}

// P12.1, W0: programs of any trees have an answer.
func TestNoise(t *testing.T) {
	m, count := newMaker(33), map[string]int{}
	for range 200 {
		p := m.program(1+m.Intn(4), 40)
		for range 10 {
			m.noise(&p)
			count[checkJudged(t, p, one(m, mains(p)))]++
		}
	}
	checkCounts(t, count, map[string]int{"made": 50, "error 10": 200, "error 4": 100})
}

// noise changes something in p, which need not be well-formed.
func (m *maker) noise(p *api.Program) {
	names := []string{"", "x", "c", "n0", "n1", "f0", "A", "+", "_i0"}
	n := &p.Nodes[m.Intn(len(p.Nodes))]
	e := one(m, exprsOf(n))
	switch m.Intn(12) {
	case 0:
		e.Op = m.Intn(api.Mem+4) - 2
	case 1:
		e.Kids = e.Kids[:m.Intn(len(e.Kids)+1)]
	case 2:
		e.Name = one(m, names)
	case 3:
		e.Cons = append(e.Cons, one(m, names))
	case 4:
		n.Funs = append(n.Funs, one(m, names))
	case 5:
		n.Name = one(m, names)
	case 6:
		p.Nodes = append(p.Nodes, clone(one(m, p.Nodes)))
	default:
		if calls := only(api.Call, exprsOf(n)); len(calls) > 0 {
			m.changeCall(*p, *n, one(m, calls))
		}
	}
}

// R6: the answer does not depend on earlier calls, nor on others that run.
func TestAgainAndAgain(t *testing.T) {
	m := newMaker(34)
	for range 20 {
		p := m.program(6, 40)
		main := one(m, mains(p))
		want, fault := special.Make(p, main)
		for range 4 {
			t.Run("", func(t *testing.T) {
				t.Parallel()
				if got, f := special.Make(p, main); f != fault || !tree.Same(got, want) {
					t.Errorf("Make(%s, %q) = %s, fault %v, want %s, fault %v", text(p), main, text(got), f, text(want), fault)
				}
			})
		}
	}
}

package streams_test

import (
	"reflect"
	"slices"
	"strconv"
	"testing"

	"pendule/api"
	"pendule/first"
	"pendule/streams"
	"pendule/types"
)

// checkJudged holds what a node of p yields, for a script that is drawn, against what the judge finds, and returns a word for that.
func checkJudged(t *testing.T, m *maker, p api.Program, node string, rows int) string {
	t.Helper()
	want := judgedFault(p, node)
	y, f := streams.New(p, node)
	if f != want || (y == nil) != (f.Err != api.OK) {
		t.Fatalf("New(%s, %q): %v, fault %v, want %v", text(p), node, y, f, want)
	}
	if f.Err != api.OK {
		return "error " + strconv.Itoa(int(f.Err))
	}
	infos, _ := types.Infer(p)
	j := judgeOf(p)
	script := m.script(p, infos[j.nodeNamed(node)].Sig.Ins, rows)
	before := show(p) + show(script)
	got := played(t, p, node, script)
	if outs := j.outs(node, script); !reflect.DeepEqual(got, outs) {
		t.Fatalf("Run(%s, %q, %v): %s, want %s", text(p), node, script, showStreams(got), showStreams(outs))
	}
	if show(p)+show(script) != before {
		t.Fatalf("%s is changed to %s %s", before, show(p), show(script))
	}
	checkSoFar(t, m, y, script, got)
	return checkDefined(t, p, node, got)
}

// checkSoFar holds that the cells depend on the rows so far alone: those of a node that began after some of the rows were played.
func checkSoFar(t *testing.T, m *maker, y *streams.Play, script [][]int64, want [][]api.Cell) {
	t.Helper()
	for _, n := range []int{m.Intn(len(script) + 1), len(script)} {
		for i, row := range script[:n] {
			if got, err := y.Step(slices.Clone(row)); err != api.OK || !reflect.DeepEqual(got, want[i]) {
				t.Fatalf("Step(%v) at the instant %d: %v, error %d, want %v", row, i, got, err, want[i])
			}
		}
		y.Begin()
	}
}

// checkDefined holds what P13.2 says, and tells whether all was defined, or something was not in what layer 10 reports.
func checkDefined(t *testing.T, p api.Program, node string, got [][]api.Cell) string {
	t.Helper()
	_, f := first.Infer(p)
	undefined := false
	for _, c := range slices.Concat(got...) {
		undefined = undefined || c.Kind == api.Nil
		if c.Kind != api.Nil && c.Kind != api.Value || c.Kind == api.Nil && (f.Err == api.OK || c.N != 0) {
			t.Fatalf("%s in %s yields %v, fault of layer 10: %v", node, text(p), c, f)
		}
	}
	switch {
	case f.Err == api.OK:
		return "firm"
	case undefined:
		return "undefined"
	}
	return "open"
}

// checkCounts fails where something was drawn too seldom.
func checkCounts(t *testing.T, count, least map[string]int) {
	t.Helper()
	t.Log(count)
	for what, n := range least {
		if count[what] < n {
			t.Errorf("%s: %d times only", what, count[what])
		}
	}
}

// features counts what a program has.
func features(p api.Program, count map[string]int) {
	for _, n := range p.Nodes {
		for _, i := range n.Items {
			if len(i.Names) > 1 {
				count["several names"]++
			}
		}
		for _, e := range exprsOf(&n) {
			count["op "+strconv.Itoa(e.Op)]++
		}
	}
}

// P13.1, P13.2, P13.3: programs that are drawn with types, clocks and no circles, and those with something changed, yield what the judge finds.
func TestDrawn(t *testing.T) {
	for seed := range int64(4) {
		t.Run(strconv.Itoa(int(seed)), func(t *testing.T) {
			t.Parallel()
			m, count := newMaker(seed), map[string]int{}
			for range 100 {
				m.firm = m.Intn(2) == 0
				p := m.program(1 + m.Intn(3))
				features(p, count)
				for _, n := range p.Nodes {
					word := checkJudged(t, m, p, n.Name, 7)
					count[word]++
					if word == "error 6" || word == "error 8" {
						t.Fatalf("%s is drawn to be played", text(p))
					}
				}
				for range 6 {
					q := m.mutant(p)
					count["mutant "+checkJudged(t, m, q, one(m, q.Nodes).Name, 5)]++
					q = m.mutant(q)
					count["mutant "+checkJudged(t, m, q, one(m, q.Nodes).Name, 5)]++
				}
			}
			least := map[string]int{"firm": 50, "undefined": 20, "several names": 20, "mutant firm": 50, "mutant undefined": 50, "mutant error 5": 50, "mutant error 6": 20, "mutant error 8": 20}
			for op := api.Int; op <= api.Every; op++ {
				if op != api.Match {
					least["op "+strconv.Itoa(op)] = 50
				}
			}
			checkCounts(t, count, least)
		})
	}
}

// P13.1: the same of larger programs, over more instants.
func TestLarge(t *testing.T) {
	for seed := range int64(4) {
		t.Run(strconv.Itoa(int(seed)), func(t *testing.T) {
			t.Parallel()
			m, count := newMaker(100+seed), map[string]int{}
			m.samples = 8
			for range 40 {
				m.firm = m.Intn(2) == 0
				p := m.program(4 + m.Intn(3))
				n := p.Nodes[len(p.Nodes)-1]
				// The judge takes longer than weights grow.
				if w := (judge{p: p}).weight(len(p.Nodes) - 1).Int64(); w > 5 && w < 50 {
					count["heavy "+checkJudged(t, m, p, n.Name, 10)]++
				}
			}
			checkCounts(t, count, map[string]int{"heavy firm": 3, "heavy undefined": 1})
		})
	}
}

// P13.1: the order of the items makes no difference, whether or not it is one in which they could be played.
func TestOrders(t *testing.T) {
	m, defined := newMaker(21), 0
	m.samples = 9
	for range 300 {
		p := m.program(2)
		infos, f := types.Infer(p)
		if f.Err != api.OK {
			continue
		}
		script := m.script(p, infos[1].Sig.Ins, 10)
		want := showStreams(played(t, p, "n1", script))
		for range 5 {
			q := clone(p)
			for _, n := range q.Nodes {
				m.Shuffle(len(n.Items), func(i, j int) { n.Items[i], n.Items[j] = n.Items[j], n.Items[i] })
			}
			if got := showStreams(played(t, q, "n1", script)); got != want {
				t.Fatalf("Run(%s, n1, %v): %s, and in another order %s", text(q), script, got, want)
			}
		}
		defined++
	}
	if defined < 200 {
		t.Errorf("%d programs only", defined)
	}
}

// P13.2: with a program that layer 10 has nothing against, all is defined, for any values.
func TestDefined(t *testing.T) {
	m, count := newMaker(22), map[string]int{}
	m.firm = true
	for range 300 {
		p := m.program(3)
		infos, f := types.Infer(p)
		if f.Err != api.OK {
			continue
		}
		for k, n := range p.Nodes {
			for range 3 {
				count[checkDefined(t, p, n.Name, played(t, p, n.Name, m.script(p, infos[k].Sig.Ins, 20)))]++
			}
		}
	}
	checkCounts(t, count, map[string]int{"firm": 1500})
}

// P13.3: what comes later makes no difference: two scripts that begin alike yield what is alike so far.
func TestLaterRows(t *testing.T) {
	m := newMaker(23)
	for range 200 {
		p := m.program(2)
		infos, f := types.Infer(p)
		if f.Err != api.OK {
			continue
		}
		types := infos[1].Sig.Ins
		same := m.script(p, types, m.Intn(8))
		a, b := append(slices.Clone(same), m.script(p, types, 5)...), append(slices.Clone(same), m.script(p, types, m.Intn(5))...)
		got, want := played(t, p, "n1", a)[:len(same)], played(t, p, "n1", b)[:len(same)]
		if showStreams(got) != showStreams(want) {
			t.Fatalf("Run(%s, n1, ..): %s with the later rows of %v, %s with those of %v", text(p), showStreams(got), a, showStreams(want), b)
		}
	}
}

// W0: programs of any trees have a result.
func TestNoise(t *testing.T) {
	m, count := newMaker(24), map[string]int{}
	for range 300 {
		p := m.program(1 + m.Intn(3))
		for range 10 {
			n := &p.Nodes[m.Intn(len(p.Nodes))]
			e := one(m, exprsOf(n))
			switch m.Intn(8) {
			case 0:
				e.Op += m.Intn(3) - 1
			case 1:
				e.Kids = e.Kids[:m.Intn(len(e.Kids)+1)]
			case 2:
				e.Name = one(m, []string{"", "v0", "+", "not", "C00", "n0", "_v0"})
			case 3:
				e.Cons = append(e.Cons, one(m, []string{"", "True", "n0", "g"}))
			default:
				*e = clone(*one(m, exprsOf(n)))
			}
			count[checkJudged(t, m, p, one(m, []string{"n0", "n0", p.Nodes[len(p.Nodes)-1].Name, "nowhere"}), 3)]++
		}
	}
	checkCounts(t, count, map[string]int{"error 4": 50, "error 5": 100, "error 10": 300, "error 11": 20, "firm": 50})
}

package types_test

import (
	"fmt"
	"slices"
	"strconv"
	"testing"

	"pendule/api"
	"pendule/types"
)

// flat returns the types of a node in the order of its typings: its static parameters, then its variables.
func flat(i types.Info) []api.Type {
	var l []api.Type
	for _, f := range i.Sig.Funs {
		l = append(append(l, f.Ins...), f.Outs...)
	}
	for _, v := range i.Vars {
		l = append(l, v.Type)
	}
	return l
}

// checkShape holds what the parts of an info say of one another: names, counts, and the numbers of the type variables.
func checkShape(t *testing.T, p api.Program, n api.Node, i types.Info) {
	t.Helper()
	byName := map[string]api.Type{}
	var names []string
	for _, v := range i.Vars {
		names = append(names, v.Name)
		byName[v.Name] = v.Type
		if v.Clock != nil {
			t.Fatalf("%s has a clock in %s", v.Name, showProgram(p))
		}
	}
	of := func(names []string) []api.Type {
		var l []api.Type
		for _, v := range names {
			l = append(l, byName[v])
		}
		return l
	}
	if !slices.Equal(names, varsOf(n)) || len(i.Sig.Funs) != len(n.Funs) || !slices.Equal(i.Sig.Ins, of(n.Ins)) || !slices.Equal(i.Sig.Outs, of(n.Outs)) {
		t.Fatalf("%s is no info of %s in %s", showInfo(p, i), n.Name, showProgram(p))
	}
	var l []api.Type
	for k, f := range i.Sig.Funs {
		s, _ := firstCall(n, n.Funs[k])
		if len(f.Funs) != 0 || len(f.Ins) != len(s.e.Kids) || len(f.Outs) != s.results {
			t.Fatalf("%s: the static parameter %d in %s", showInfo(p, i), k, showProgram(p))
		}
		l = append(append(l, f.Ins...), f.Outs...)
	}
	l = slices.Concat(l, i.Sig.Ins, i.Sig.Outs, of(names))
	least := api.Type(0)
	for _, m := range l {
		if m < least-1 {
			t.Fatalf("%s: the order of the type variables in %s", showInfo(p, i), showProgram(p))
		}
		least = min(least, m)
	}
}

// instances returns what l becomes if each of its type variables is any of these types.
func instances(l, universe []api.Type) []string {
	digits := make([]int, max(0, -int(slices.Min(l))))
	var all []string
	for more := true; more; more = next(digits, len(universe)) {
		var with, instance []api.Type
		for _, d := range digits {
			with = append(with, universe[d])
		}
		for _, m := range l {
			instance = append(instance, types.Set(m, with))
		}
		all = append(all, fmt.Sprint(instance))
	}
	slices.Sort(all)
	return all
}

// checkJudged holds what Infer returns of p against what the judge finds, and returns what that is: "typed", a word for the fault, or "" if it finds nothing.
func checkJudged(t *testing.T, p api.Program) string {
	t.Helper()
	want, typings, ok := judged(p)
	if !ok {
		return ""
	}
	before := showProgram(p)
	l, got := types.Infer(p)
	if got != want || want != (api.Fault{}) && len(l) > 0 || want == (api.Fault{}) && len(l) != len(p.Nodes) {
		t.Fatalf("Infer(%s): fault %v and the types %q, want %v", before, got, showInfos(p, l), want)
	}
	if showProgram(p) != before {
		t.Fatalf("%s is changed", before)
	}
	for k, i := range l {
		checkShape(t, p, p.Nodes[k], i)
		var all []string
		for _, typing := range typings[k] {
			all = append(all, fmt.Sprint(typing))
		}
		slices.Sort(all)
		if got := instances(flat(i), newJudge(p).universe); !slices.Equal(got, all) {
			t.Fatalf("Infer(%s): the node %d has the types %s, with the instances %q, want %q", before, k, showInfo(p, i), got, all)
		}
	}
	switch {
	case want.Err == api.ErrType && want.B > 0:
		return "later item"
	case want.Err == api.ErrType && want.B == 0:
		return "first item"
	case want.Err == api.ErrType:
		return "uncalled"
	case want.Err == api.ErrArg:
		return "sugar"
	case want.Err != api.OK:
		return "names"
	}
	return "typed"
}

// features counts what the types of a program with types have.
func features(p api.Program, count map[string]int) {
	l, _ := types.Infer(p)
	for k, i := range l {
		if len(i.Sig.Funs) > 0 {
			count["static"]++
		}
		if slices.Min(append(flat(i), 0)) < 0 {
			count["polymorphic"]++
		}
		for _, item := range p.Nodes[k].Items {
			for _, s := range below(item.E, len(item.Names)) {
				if s.e.Op == api.Call && slices.ContainsFunc(s.e.Cons, func(c string) bool { return slices.Contains(p.Nodes[k].Funs, c) }) {
					count["passed on"]++
				} else if s.e.Op == api.Call && len(s.e.Cons) > 0 {
					count["passed"]++
				}
				if s.results > 1 {
					count["several results"]++
				}
			}
		}
	}
}

// P8.1, P8.2: programs that are drawn with types have them, programs with something changed have the fault that the rules give, and the instances of the types by Set are the typings that satisfy the rules: all of them, and no others.
func TestTypings(t *testing.T) {
	for seed := range int64(8) {
		t.Run(strconv.Itoa(int(seed)), func(t *testing.T) {
			t.Parallel()
			checkDrawn(t, newMaker(seed))
		})
	}
}

func checkDrawn(t *testing.T, m *maker) {
	count := map[string]int{}
	for range 100 {
		p := m.program()
		if found := checkJudged(t, p); found != "typed" {
			t.Fatalf("%s is drawn with types, and judged: %q", showProgram(p), found)
		}
		features(p, count)
		for range 6 {
			q := m.mutant(p)
			count[checkJudged(t, q)]++
			count[checkJudged(t, m.mutant(q))]++
		}
	}
	t.Log(count)
	for what, least := range map[string]int{"typed": 300, "first item": 50, "later item": 100, "uncalled": 10, "sugar": 10, "names": 50,
		"static": 50, "polymorphic": 100, "passed": 25, "passed on": 3, "several results": 30} {
		if count[what] < least {
			t.Errorf("%s: %d times only", what, count[what])
		}
	}
}

// P8.2: the types of the first nodes of a program do not depend on what follows them.
func TestBeginnings(t *testing.T) {
	m := newMaker(2)
	for range 300 {
		p := m.program()
		whole := inferred(t, p)
		for n := 1; n < len(p.Nodes); n++ {
			q := api.Program{Enums: p.Enums, Nodes: p.Nodes[:n]}
			if got, want := showInfos(q, inferred(t, q)), showInfos(p, whole[:n]); got != want {
				t.Fatalf("the first %d nodes of %s: %s, want %s", n, showProgram(p), got, want)
			}
		}
	}
}

// W0: programs of any trees have a result.
func TestNoise(t *testing.T) {
	m := newMaker(3)
	for range 400 {
		p := m.program()
		for range 20 {
			n := &p.Nodes[m.Intn(len(p.Nodes))]
			e := one(m, pointers(&n.Items[m.Intn(len(n.Items))].E))
			switch m.Intn(4) {
			case 0:
				e.Op += m.Intn(3) - 1
			case 1:
				e.Kids = e.Kids[:m.Intn(len(e.Kids)+1)]
			case 2:
				e.Name = one(m, []string{"", "x0", "+", "not", "A", "n0"})
			case 3:
				e.Cons = append(e.Cons, one(m, []string{"", "True", "n0", "f0"}))
			}
			checkJudged(t, p)
		}
	}
}

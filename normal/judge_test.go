package normal_test

import (
	"errors"
	"fmt"
	"slices"
	"strconv"

	"pendule/api"
	"pendule/cause"
	"pendule/clocks"
	"pendule/tree"
	"pendule/types"
)

// judge reads a normal node beside the node that it is made of, from the pure expressions down: it follows the names in them to the equations, and holds that these stand one behind the other as they are to be made.
type judge struct {
	source api.Node
	clocks map[string]api.Clock // of the variables of source
	n      api.NNode
	next   int         // the index of the equation that must come next
	number int         // of the new variable that must come next
	fresh  []api.Named // the new variables so far
}

// refusal is what the judge panics with.
type refusal struct{ error }

func refuse(format string, args ...any) { panic(refusal{fmt.Errorf(format, args...)}) }

// judged returns why l are not the normal nodes of p, or nil if they are.
func judged(p api.Program, l []api.NNode) (err error) {
	defer func() {
		if r, ok := recover().(refusal); ok {
			err = r.error
		}
	}()
	vars, f := clocks.Infer(p)
	if f != (api.Fault{}) || len(l) != len(p.Nodes) {
		return errors.New("other nodes, or a fault")
	}
	for k, n := range p.Nodes {
		j := judge{source: n, clocks: map[string]api.Clock{}, n: l[k]}
		for _, v := range vars[k] {
			j.clocks[v.Name] = v.Clock
		}
		j.node(vars[k])
	}
	return nil
}

func (j *judge) node(vars []api.Named) {
	if j.n.Name != j.source.Name || !slices.Equal(j.n.Ins, j.source.Ins) || !slices.Equal(j.n.Outs, j.source.Outs) {
		refuse("%s is the head of %s", show(j.n), j.source.Name)
	}
	for _, i := range j.source.Items {
		j.item(i.Eq)
	}
	if j.next != len(j.n.Eqs) {
		refuse("%d equations, not %d", len(j.n.Eqs), j.next)
	}
	same := func(v, w api.Named) bool {
		return v.Name == w.Name && v.Type == 0 && slices.Equal(v.Clock, w.Clock)
	}
	if want := slices.Concat(vars, j.fresh); !slices.EqualFunc(j.n.Vars, want, same) {
		refuse("the variables are %s, not %s", show(j.n.Vars), show(want))
	}
	j.named()
	j.fit()
}

func (j *judge) item(q api.Eq) {
	c := j.clocks[q.Names[0]]
	switch q.E.Op {
	case api.Merge:
		j.merge(q.E, j.at(q.Names[0]), c, q.Names)
	case api.Call, api.Every:
		j.call(q.E, j.at(q.Names[0]), c, q.Names)
	default:
		j.value(q.E, q.Names[0], c, q.Names)
	}
}

// at returns the index of the equation of a name.
func (j *judge) at(name string) int {
	i := slices.IndexFunc(j.n.Eqs, func(q api.NEq) bool { return slices.Contains(q.Names, name) })
	if i < 0 {
		refuse("there is no equation of %q", name)
	}
	return i
}

// variable returns the name of the new variable that e is.
func (j *judge) variable(e api.Expr) string {
	if !tree.SameExpr(e, api.Expr{Op: api.Var, Name: e.Name}) {
		refuse("%s is no variable", tree.Show(e))
	}
	if _, ok := j.clocks[e.Name]; ok {
		refuse("%s is not new", e.Name)
	}
	return e.Name
}

// is holds that the equation i comes next, and is one of this sort at this clock, with these names, or with the new one that comes next.
func (j *judge) is(i, sort int, reset string, c api.Clock, names []string) {
	q := j.n.Eqs[i]
	if i != j.next {
		refuse("the equation %d comes instead of %d", i, j.next)
	}
	j.next++
	if len(names) == 0 {
		names = []string{j.fresher()}
		j.fresh = append(j.fresh, api.Named{Name: names[0], Clock: c})
	}
	if q.Sort != sort || q.Reset != reset || !slices.Equal(q.Clock, c) || !slices.Equal(q.Names, names) {
		refuse("the equation %d is %s, not one of the sort %d, the names %v, the reset %q, the clock %v", i, show(q), sort, names, reset, c)
	}
	if sort == api.NFlag && !tree.SameExpr(q.E, api.Expr{}) {
		refuse("the flag %d has an expression", i)
	}
}

// fresher returns the name of the next new variable.
func (j *judge) fresher() string {
	for {
		name := "_v" + strconv.Itoa(j.number)
		j.number++
		if !slices.Contains(varsOf(j.source), name) {
			return name
		}
	}
}

// value holds that the equation of name gives it e, purified.
func (j *judge) value(e api.Expr, name string, c api.Clock, names []string) {
	i := j.at(name)
	j.pure(e, j.n.Eqs[i].E, c)
	j.is(i, api.NExp, "", c, names)
}

// pure holds that got is what e becomes at the clock c, and that what it takes for that comes next.
func (j *judge) pure(e, got api.Expr, c api.Clock) {
	switch e.Op {
	case api.Fby:
		i, a, b := j.parts(got)
		m := j.at(j.variable(b))
		t := j.variable(j.n.Eqs[m].E)
		j.pure(e.Kids[0], a, c)
		j.value(e.Kids[1], t, c, nil)
		j.is(j.at(i), api.NFlag, "", c, nil)
		j.is(m, api.NMem, "", c, nil)
	case api.Pre:
		m := j.at(j.variable(got))
		j.value(e.Kids[0], j.variable(j.n.Eqs[m].E), c, nil)
		j.is(m, api.NMem, "", c, nil)
	case api.Arrow:
		i, a, b := j.parts(got)
		j.pure(e.Kids[0], a, c)
		j.pure(e.Kids[1], b, c)
		j.is(j.at(i), api.NFlag, "", c, nil)
	case api.Merge:
		j.merge(e, j.at(j.variable(got)), c, nil)
	case api.Call, api.Every:
		j.call(e, j.at(j.variable(got)), c, nil)
	case api.When:
		j.kids(e, got, slices.Repeat([]api.Clock{j.clocks[e.Name]}, len(e.Kids)))
	default:
		j.kids(e, got, slices.Repeat([]api.Clock{c}, len(e.Kids)))
	}
}

// parts returns the flag and the branches of what must be a choice by a new variable.
func (j *judge) parts(e api.Expr) (string, api.Expr, api.Expr) {
	if len(e.Kids) != 3 || !tree.SameExpr(e, api.Expr{Op: api.If, Kids: e.Kids}) {
		refuse("%s is no choice", tree.Show(e))
	}
	return j.variable(e.Kids[0]), e.Kids[1], e.Kids[2]
}

// kids holds that got is e with pure kids, each at its clock.
func (j *judge) kids(e, got api.Expr, at []api.Clock) {
	if len(got.Kids) != len(e.Kids) || got.Op != e.Op || got.Name != e.Name || got.N != e.N || !slices.Equal(got.Cons, e.Cons) {
		refuse("%s instead of %s", tree.Show(got), tree.Show(e))
	}
	for i, k := range e.Kids {
		j.pure(k, got.Kids[i], at[i])
	}
}

// merge holds that the equation i is that of a Merge.
func (j *judge) merge(e api.Expr, i int, c api.Clock, names []string) {
	var at []api.Clock
	for _, con := range e.Cons {
		at = append(at, append(slices.Clone(c), api.Sample{Var: e.Name, Con: con}))
	}
	j.kids(e, j.n.Eqs[i].E, at)
	j.is(i, api.NExp, "", c, names)
}

// call holds that the equation i is that of a Call or an Every.
func (j *judge) call(e api.Expr, i int, c api.Clock, names []string) {
	q, call := j.n.Eqs[i], e
	if e.Op == api.Every {
		call = e.Kids[0]
	}
	j.kids(call, q.E, slices.Repeat([]api.Clock{c}, len(call.Kids)))
	reset := ""
	if e.Op == api.Every {
		reset = j.variable(api.Expr{Op: api.Var, Name: q.Reset})
		j.value(e.Kids[1], reset, c, nil)
	}
	j.is(i, api.NCall, reset, c, names)
}

// named holds that each variable but the Ins is a name of one equation.
func (j *judge) named() {
	count := map[string]int{}
	for _, q := range j.n.Eqs {
		for _, v := range q.Names {
			count[v]++
		}
	}
	for _, v := range j.n.Vars {
		want := 1
		if slices.Contains(j.n.Ins, v.Name) {
			want = 0
		}
		if count[v.Name] != want {
			refuse("%s is a name %d times", v.Name, count[v.Name])
		}
		delete(count, v.Name)
	}
	if len(count) > 0 {
		refuse("%v are no variables", count)
	}
}

// fit holds that the expressions are as pure as they must be and have the clocks of their names.
func (j *judge) fit() {
	for _, q := range j.n.Eqs {
		if q.Sort != api.NFlag && !clocks.Fits(j.n.Vars, q.E, q.Clock) {
			refuse("%s does not fit", showEq(q))
		}
		for _, name := range q.Names {
			i := slices.IndexFunc(j.n.Vars, func(v api.Named) bool { return v.Name == name })
			if !slices.Equal(j.n.Vars[i].Clock, q.Clock) {
				refuse("%s has another clock than %s", showEq(q), name)
			}
		}
		for at, e := range pointers(&q.E) {
			switch e.Op {
			case api.Fby, api.Pre, api.Arrow, api.Every, api.Match:
				refuse("%s is not pure", showEq(q))
			case api.Call:
				if at > 0 || q.Sort != api.NCall {
					refuse("%s has a call in it", showEq(q))
				}
			case api.Merge:
				if at > 0 || q.Sort != api.NExp {
					refuse("%s has a merge in it", showEq(q))
				}
			}
		}
	}
}

// judgedFault returns the fault that stands against normalizing p.
func judgedFault(p api.Program) api.Fault {
	if _, f := types.Infer(p); f.Err != api.OK {
		return f
	}
	for _, n := range p.Nodes {
		if len(n.Funs) > 0 {
			return api.Fault{Err: api.ErrArg}
		}
	}
	if _, f := clocks.Infer(p); f.Err != api.OK {
		return f
	}
	return cause.Check(p)
}

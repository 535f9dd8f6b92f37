package sugar

import (
	"slices"
	"strconv"

	"pendule/api"
)

// automaton is an automaton that is translated, with the names that the translation gives it.
type automaton struct {
	states              []api.State
	cons                []string // the names of the states
	kind, current, next string   // its enum, its state at an instant, and its state at the next one
}

func newAutomaton(number int, states []api.State) automaton {
	k := strconv.Itoa(number)
	a := automaton{states: states, kind: "_t" + k, current: "_s" + k, next: "_n" + k}
	for _, s := range states {
		a.cons = append(a.cons, s.Name)
	}
	return a
}

func (a automaton) enum() api.Enum {
	return api.Enum{Name: a.kind, Cons: slices.Clone(a.cons)}
}

// items returns the equations that take the place of the automaton.
func (a automaton) items() []api.Item {
	before := api.Expr{Op: api.Var, Name: a.next}
	delay := api.Expr{Op: api.Fby, Kids: []api.Expr{constructor(a.cons[0]), before}}
	l := []api.Item{equation([]string{a.current}, delay)}
	for _, q := range a.states[0].Eqs {
		name := q.Names[0]
		l = append(l, a.merged(name, func(s api.State) api.Expr { return definition(s, name) }))
	}
	return append(l, a.merged(a.next, nextState))
}

// merged returns the equation for a name whose expression in each state is what in returns.
func (a automaton) merged(name string, in func(s api.State) api.Expr) api.Item {
	var arms []api.Expr
	for _, s := range a.states {
		arms = append(arms, in(s))
	}
	return equation([]string{name}, merge(a.current, a.cons, arms))
}

// definition returns the expression that s has for a name, which each state of an automaton defines if the first one does.
func definition(s api.State, name string) api.Expr {
	i := slices.IndexFunc(s.Eqs, func(q api.Eq) bool { return q.Names[0] == name })
	return s.Eqs[i].E
}

// nextState returns where the first transition of s goes whose condition holds, and s itself if none does.
func nextState(s api.State) api.Expr {
	e := constructor(s.Name)
	for _, w := range slices.Backward(s.Ways) {
		e = api.Expr{Op: api.If, Kids: []api.Expr{w.If, constructor(w.To), e}}
	}
	return e
}

func constructor(name string) api.Expr { return api.Expr{Op: api.Con, Name: name} }

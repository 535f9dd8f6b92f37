package special

import (
	"strconv"

	"pendule/api"
)

// instance is a node, by its index, with the instances that are passed for its Funs.
type instance struct {
	node int
	funs passed
}

// passed is the numbers of the instances that are passed for the Funs of a node, and zeros behind them, so that the same ones are equal.
type passed [api.MaxArgs]int

// maker makes a node of each instance that is visited.
type maker struct {
	program api.Program
	numbers map[instance]int
	nodes   []api.Node // of the instances, by their numbers
}

// number returns the number of i, which is visited if it has none yet.
func (m *maker) number(i instance) int {
	if k, ok := m.numbers[i]; ok {
		return k
	}
	if m.tooMany() {
		return 0 // any number will do, as nothing is returned of what is made
	}
	n := visit{m, i}.node()
	// Not any sooner: the instances that i needs have the numbers below its own.
	k := len(m.nodes)
	n.Name = nameOf(k)
	m.numbers[i] = k
	m.nodes = append(m.nodes, n)
	return k
}

// tooMany reports whether there are more instances than a program may have nodes. As they can be very many more, no further ones are visited then.
func (m *maker) tooMany() bool { return len(m.nodes) > api.MaxNodes }

// nameOf returns the name of the node of the instance with the number k.
func nameOf(k int) string { return "_i" + strconv.Itoa(k) }

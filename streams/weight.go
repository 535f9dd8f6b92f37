package streams

import (
	"pendule/api"
	"pendule/scope"
)

// maxWeight is the greatest weight of a node that can be played.
const maxWeight = 1000

// weightOf returns the weight of the node k of a program without Funs, or some number above maxWeight if the weight is above it: weights can be too great for any integer.
func weightOf(p api.Program, k int) int {
	w := weights{program: p}
	for _, n := range p.Nodes[:k+1] {
		sum := 1
		for _, i := range n.Items {
			sum += w.calls(i.E)
		}
		w.known = append(w.known, min(sum, maxWeight+1))
	}
	return w.known[k]
}

// weights are those of the first nodes of a program. The next node calls no other ones.
type weights struct {
	program api.Program
	known   []int
}

// calls returns the sum of the weights of what the calls in e call.
func (w weights) calls(e api.Expr) int {
	sum := 0
	if e.Op == api.Call {
		k, _ := scope.Node(w.program, e.Name)
		sum = w.known[k]
	}
	for _, k := range e.Kids {
		sum += w.calls(k)
	}
	return sum
}

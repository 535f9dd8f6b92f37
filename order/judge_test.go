package order_test

import (
	"slices"

	"pendule/api"
	"pendule/cause"
)

// readBy returns the names that an equation reads, as often as they stand in it: by E, as Reset, in the clock.
func readBy(q api.NEq) []string {
	l := cause.Reads(q.E)
	if q.Reset != "" {
		l = append(l, q.Reset)
	}
	for _, s := range q.Clock {
		l = append(l, s.Var)
	}
	return l
}

func reads(q api.NEq, name string) bool { return slices.Contains(readBy(q), name) }

func has(q api.NEq, name string) bool { return slices.Contains(q.Names, name) }

func is(q api.NEq, sorts ...int) bool { return slices.Contains(sorts, q.Sort) }

// needs tells whether the equation b of n needs the equation d, by the words of the chapter.
func needs(n api.NNode, b, d int) bool {
	q, other := n.Eqs[b], n.Eqs[d]
	for _, name := range readBy(q) {
		first := slices.IndexFunc(n.Eqs, func(q api.NEq) bool { return has(q, name) })
		if first == d && is(other, api.NExp, api.NCall) {
			return true
		}
	}
	return is(q, api.NMem, api.NFlag) && len(q.Names) > 0 && b != d && reads(other, q.Names[0])
}

// relation tells of each equation which ones it needs.
func relation(n api.NNode) [][]int {
	l := make([][]int, len(n.Eqs))
	for b := range n.Eqs {
		for d := range n.Eqs {
			if needs(n, b, d) {
				l[b] = append(l[b], d)
			}
		}
	}
	return l
}

// placed looks, for each position, for the smallest index that can stand there; nil if none can.
func placed(n api.NNode) []int {
	needed, l := relation(n), []int{}
	for range n.Eqs {
		b := slices.IndexFunc(needed, func(ds []int) bool {
			return !slices.ContainsFunc(ds, func(d int) bool { return !slices.Contains(l, d) })
		})
		if b < 0 {
			return nil
		}
		l = append(l, b)
		// What stands somewhere cannot stand anywhere else.
		needed[b] = []int{len(n.Eqs)}
	}
	return l
}

// fits tells whether l has each equation of n once, behind those that it needs.
func fits(n api.NNode, l []int) bool {
	for b := range n.Eqs {
		if len(l) != len(n.Eqs) || !slices.Contains(l, b) {
			return false
		}
	}
	for at, b := range l {
		for _, d := range l[at:] {
			if needs(n, b, d) {
				return false
			}
		}
	}
	return true
}

// least returns the first of all arrangements of the equations of n, by the indices from the first position on, that fits; nil if none does.
func least(n api.NNode, begun []int) []int {
	if len(begun) == len(n.Eqs) {
		if fits(n, begun) {
			return append([]int{}, begun...)
		}
		return nil
	}
	for b := range n.Eqs {
		if slices.Contains(begun, b) {
			continue
		}
		if l := least(n, append(slices.Clone(begun), b)); l != nil {
			return l
		}
	}
	return nil
}

// misread executes the equations in the order l, where each name belongs to one equation, and returns a name that is read before it is computed, or after it is written as a memory; "" if there is none.
func misread(n api.NNode, l []int) string {
	pending, written := map[string]bool{}, map[string]bool{}
	for _, q := range n.Eqs {
		for _, v := range q.Names {
			pending[v] = is(q, api.NExp, api.NCall)
		}
	}
	for _, b := range l {
		q := n.Eqs[b]
		for _, v := range readBy(q) {
			if pending[v] || written[v] {
				return v
			}
		}
		for _, v := range q.Names {
			written[v] = !pending[v]
			pending[v] = false
		}
	}
	return ""
}

package streams

import "pendule/api"

// anyValue stands for the number of values of a type that all values are of.
const anyValue = 0

// countsOf returns how many values are of each of the types.
func countsOf(p api.Program, l []api.Type) []int {
	var counts []int
	for _, t := range l {
		counts = append(counts, countOf(p, t))
	}
	return counts
}

func countOf(p api.Program, t api.Type) int {
	switch {
	case t == api.TyBool:
		return 2
	case t >= api.TyEnum:
		return len(p.Enums[t-api.TyEnum].Cons)
	}
	return anyValue
}

// takes reports whether there are as many values as Ins, each of its type.
func (y *Play) takes(ins []int64) bool {
	if len(ins) != len(y.counts) {
		return false
	}
	for i, n := range ins {
		if c := y.counts[i]; c != anyValue && (n < 0 || n >= int64(c)) {
			return false
		}
	}
	return true
}

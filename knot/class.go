package knot

func (k *Knot) has(a int) bool { return a >= 0 && a < k.Len() }

// root returns the root of the tree of a's class. It shortens no path on its way, so that a method that only asks writes nothing.
func (k *Knot) root(a int) *element {
	for k.elements[a].above != a {
		a = k.elements[a].above
	}
	return &k.elements[a]
}

// merge makes one class, with this mark, of those of two different roots. The root of the smaller class goes below the other one: so a path to a root has no more steps than the number of elements has binary digits.
func merge(r, s *element, mark int) {
	if r.size < s.size {
		r, s = s, r
	}
	s.above = r.above
	r.size += s.size
	r.least = min(r.least, s.least)
	r.mark = mark
}

// common returns the mark that a class carries if it is to have both of these marks, and whether one class can have both.
func common(m, n int) (int, bool) {
	switch {
	case m == n, n == unmarked:
		return m, true
	case m == unmarked:
		return n, true
	}
	return unmarked, false
}

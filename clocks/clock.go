package clocks

import (
	"slices"

	"pendule/api"
)

// clock is a clock whose beginning may not be known yet: a root, and the path of samples behind it.
type clock struct {
	root int
	path api.Clock
}

// base is the root that is the base clock. Every other root is any clock, until it is found which.
const base = 0

// on returns c with a sample appended. A path is never appended to in place, as several clocks may share it.
func (c clock) on(x, con string) clock {
	return c.then(api.Clock{{Var: x, Con: con}})
}

func (c clock) then(path api.Clock) clock {
	return clock{c.root, slices.Concat(c.path, path)}
}

// parted returns c without its last sample, and that sample.
func (c clock) parted() (clock, api.Sample) {
	last := len(c.path) - 1
	return clock{c.root, c.path[:last]}, c.path[last]
}

// open returns a clock of which nothing is known.
func (t *timing) open() clock {
	c := clock{root: len(t.roots)}
	t.roots = append(t.roots, c)
	return c
}

// whole returns c from the root on that all that is known of its beginning leads to.
func (t *timing) whole(c clock) clock {
	begin := t.roots[c.root]
	if begin.root == c.root {
		return c
	}
	begin = t.whole(begin)
	t.roots[c.root] = begin // so that it is not put together again
	return begin.then(c.path)
}

// same demands that a and b are one clock, and reports whether they can be.
func (t *timing) same(a, b clock) bool {
	a, b = t.whole(a), t.whole(b)
	for len(a.path) > 0 && len(b.path) > 0 {
		var s, r api.Sample
		a, s = a.parted()
		b, r = b.parted()
		if s != r {
			return false
		}
	}
	return t.stands(a, b) || t.stands(b, a)
}

// stands makes a stand for b, and reports whether it can: if it is b, or a root that is still open and does not begin b.
func (t *timing) stands(a, b clock) bool {
	switch {
	case len(a.path) > 0:
		return false
	case a.root == b.root:
		return len(b.path) == 0
	case a.root == base:
		return false
	}
	t.roots[a.root] = b
	return true
}

package cause

import (
	"container/heap"
	"sort"
)

// queue holds the items that can stand next, so that the one with the smallest index comes out first.
type queue struct{ sort.IntSlice }

func (q *queue) Push(x any) { q.IntSlice = append(q.IntSlice, x.(int)) }

func (q *queue) Pop() any {
	last := len(q.IntSlice) - 1
	b := q.IntSlice[last]
	q.IntSlice = q.IntSlice[:last]
	return b
}

// order returns the items, each behind its sources, but for those that wait for themselves and those that wait for these.
func (s sources) order() []int {
	missing, readers := make([]int, len(s)), s.readers()
	var next queue
	for b, l := range s {
		missing[b] = len(l)
		if missing[b] == 0 {
			heap.Push(&next, b)
		}
	}
	var l []int
	for next.Len() > 0 {
		b := heap.Pop(&next).(int)
		l = append(l, b)
		for _, r := range readers[b] {
			missing[r]--
			if missing[r] == 0 {
				heap.Push(&next, r)
			}
		}
	}
	return l
}

// readers returns, for each item, the items that it is a source of, as often as it is one.
func (s sources) readers() [][]int {
	readers := make([][]int, len(s))
	for b, l := range s {
		for _, d := range l {
			readers[d] = append(readers[d], b)
		}
	}
	return readers
}

package order

import "sort"

// queue is the heap of the equations that are ready: the one with the smallest index comes out first.
type queue struct{ sort.IntSlice }

func (q *queue) Push(x any) { q.IntSlice = append(q.IntSlice, x.(int)) }

func (q *queue) Pop() any {
	last := q.Len() - 1
	b := q.IntSlice[last]
	q.IntSlice = q.IntSlice[:last]
	return b
}

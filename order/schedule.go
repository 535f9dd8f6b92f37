package order

import (
	"container/heap"
	"maps"
	"slices"

	"pendule/api"
)

// schedule is an order that is being made. An equation is ready when it does not wait for anything any more.
type schedule struct {
	reads   [][]string     // what each equation reads
	users   [][]int        // for each equation, those that read what it computes, as often as they read one of its names
	waits   []int          // for how much each equation still waits: for names that are to be computed, and for a turn
	unread  map[string]int // how many of the equations that read a name have not come yet
	writers map[turn][]int // the memories that wait for a turn
	ready   queue
}

// turn is when so many of the equations that read a name have not come yet. A memory waits for it, and not for each of these equations, as there may be many memories of one name.
type turn struct {
	name string
	left int
}

func scheduleOf(eqs []api.NEq) *schedule {
	s := &schedule{users: make([][]int, len(eqs)), waits: make([]int, len(eqs)), unread: map[string]int{}, writers: map[turn][]int{}}
	from := computed(eqs)
	for b, q := range eqs {
		s.addReads(b, Reads(q), from)
	}
	// How many equations read a memory is known only now.
	for b, q := range eqs {
		if isMemory(q) && len(q.Names) > 0 {
			s.addWriter(b, q.Names[0])
		}
	}
	for b, n := range s.waits {
		if n == 0 {
			heap.Push(&s.ready, b)
		}
	}
	return s
}

// addReads lets the equation b, which reads these names, wait for the equations that compute them.
func (s *schedule) addReads(b int, names []string, from map[string]int) {
	s.reads = append(s.reads, names)
	for _, v := range names {
		s.unread[v]++
		if d, ok := from[v]; ok {
			s.users[d] = append(s.users[d], b)
			s.waits[b]++
		}
	}
}

// addWriter lets the equation b, which writes the memory of this name, wait until no other equation is left that reads it.
func (s *schedule) addWriter(b int, name string) {
	left := 0
	if slices.Contains(s.reads[b], name) {
		left = 1
	}
	if s.unread[name] > left {
		t := turn{name, left}
		s.writers[t] = append(s.writers[t], b)
		s.waits[b]++
	}
}

// order returns the equations in their order, but for those that need themselves, by way of others or not, and those that need these.
func (s *schedule) order() []int {
	var l []int
	for s.ready.Len() > 0 {
		b := heap.Pop(&s.ready).(int)
		l = append(l, b)
		s.release(s.users[b])
		for _, v := range s.reads[b] {
			s.unread[v]--
			s.release(s.writers[turn{v, s.unread[v]}])
		}
	}
	return l
}

// release lets each of these equations wait once less.
func (s *schedule) release(l []int) {
	for _, b := range l {
		s.waits[b]--
		if s.waits[b] == 0 {
			heap.Push(&s.ready, b)
		}
	}
}

// computed returns, for each name that is computed, the equation that does so: the first one that has the name, if it is no memory.
func computed(eqs []api.NEq) map[string]int {
	from := map[string]int{}
	for b, q := range eqs {
		for _, v := range q.Names {
			if _, ok := from[v]; !ok {
				from[v] = b
			}
		}
	}
	maps.DeleteFunc(from, func(_ string, b int) bool { return !computes(eqs[b]) })
	return from
}

// computes and isMemory are both false for an equation of no known sort.
func computes(q api.NEq) bool { return q.Sort == api.NExp || q.Sort == api.NCall }

func isMemory(q api.NEq) bool { return q.Sort == api.NMem || q.Sort == api.NFlag }

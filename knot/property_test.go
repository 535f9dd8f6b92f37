package knot_test

import (
	"math/rand"
	"slices"
	"testing"

	"pendule/knot"
)

// P7.1: after every sequence of four calls on three elements, those among them that are refused, all methods return what the chapter's words say.
func TestShortSequences(t *testing.T) {
	calls := append(changes(3), call{kind: add}, call{tie, 3, 0}, call{tie, 1, 3}, call{mark, 3, 2}, call{mark, 1, 0})
	every(4, calls, func(l []call) {
		k, m := elements(3), newModel()
		for range 3 {
			m.add()
		}
		for _, c := range l {
			c.doBoth(t, k, m)
		}
		checkKnot(t, k, m)
		if t.Failed() {
			t.Fatal(l)
		}
	})
}

// P7.1: after each call of drawn sequences, all methods return what the chapter's words say.
func TestDrawn(t *testing.T) {
	r := rand.New(rand.NewSource(1))
	done, refused := map[int]int{}, map[int]int{}
	for range 1000 {
		var l []call
		draw(t, r, func(c call, ok bool, k *knot.Knot, m *model) {
			l = append(l, c)
			checkKnot(t, k, m)
			if t.Failed() {
				t.Fatal(l)
			}
			if ok {
				done[c.kind]++
			} else {
				refused[c.kind]++
			}
		})
	}
	for _, kind := range []int{mark, tie} {
		if done[kind] < 500 || refused[kind] < 500 {
			t.Errorf("the call %d was made %d times and refused %d times only", kind, done[kind], refused[kind])
		}
	}
	if done[add] < 500 {
		t.Errorf("an element was added %d times only", done[add])
	}
}

// P7.1: methods that ask change nothing that later calls tell: a knot that is asked after each call ends as one that is never asked.
func TestAskingChangesNothing(t *testing.T) {
	r := rand.New(rand.NewSource(2))
	for range 300 {
		silent := knot.New()
		var last *model
		added := 0
		draw(t, r, func(c call, ok bool, k *knot.Knot, m *model) {
			for added < len(m.class) {
				silent.Add()
				added++
			}
			if got := c.kind == add || c.do(silent); got != ok {
				t.Fatalf("%v: %t, of the knot that is asked %t", c, got, ok)
			}
			checkKnot(t, k, m)
			last = m
		})
		if last != nil {
			checkKnot(t, silent, last)
		}
	}
}

// P7.1: a call that is refused leaves the knot as one that never got the call.
func TestRefusedChangesNothing(t *testing.T) {
	r := rand.New(rand.NewSource(3))
	refused := 0
	for range 300 {
		var l []call
		draw(t, r, func(c call, ok bool, k *knot.Knot, m *model) {
			if ok {
				l = append(l, c)
				return
			}
			refused++
			other := elements(len(m.class))
			for _, d := range l {
				if d.kind != add && !d.do(other) {
					t.Fatalf("%v is refused without the calls that were refused", d)
				}
			}
			checkKnot(t, other, m)
			checkKnot(t, k, m)
		})
	}
	if refused < 500 {
		t.Errorf("%d calls were refused only", refused)
	}
}

// P7.2: Alike is reflexive, symmetric and transitive on the elements, holds of nothing else, and implies the same mark and the same least element, which is one of the class.
func TestEquivalence(t *testing.T) {
	r := rand.New(rand.NewSource(4))
	for range 400 {
		draw(t, r, func(_ call, _ bool, k *knot.Knot, m *model) {
			if r.Intn(8) == 0 {
				checkEquivalence(t, k)
			}
		})
		if t.Failed() {
			return
		}
	}
}

func checkEquivalence(t *testing.T, k *knot.Knot) {
	t.Helper()
	for a := range k.Len() {
		checkAlike(t, k, a, a, true)
		checkAlike(t, k, a, k.Least(a), true)
		checkAlike(t, k, a, k.Len(), false)
		checkAlike(t, k, -1, a, false)
		for b := range k.Len() {
			checkAlike(t, k, b, a, k.Alike(a, b))
			if !k.Alike(a, b) {
				continue
			}
			checkOf(t, k, b, k.Of(a))
			checkLeast(t, k, b, k.Least(a))
			for c := range k.Len() {
				if k.Alike(b, c) {
					checkAlike(t, k, a, c, true)
				}
			}
		}
	}
}

// P7.3: every order of four calls of which none is refused makes the same classes with the same marks, and none is refused in any order.
func TestOrdersOfShortSequences(t *testing.T) {
	whole := 0
	every(4, changes(3), func(l []call) {
		want, ok := seen(l)
		if !ok {
			return
		}
		whole++
		orders(slices.Clone(l), 0, func(other []call) {
			if got, ok := seen(other); !ok || got != want {
				t.Fatalf("%v makes %v, and %v makes %v, %t", l, want, other, got, ok)
			}
		})
	})
	if whole < 10000 {
		t.Errorf("%d sequences without a refused call only", whole)
	}
}

// seen returns the least element and the mark of each of three elements after the calls of l, and whether none of these was refused.
func seen(l []call) ([3][2]int, bool) {
	k := elements(3)
	for _, c := range l {
		if !c.do(k) {
			return [3][2]int{}, false
		}
	}
	var s [3][2]int
	for a := range s {
		s[a] = [2]int{k.Least(a), k.Of(a)}
	}
	return s, true
}

// orders calls f with l in every order of what stands from the index i on.
func orders(l []call, i int, f func([]call)) {
	if i == len(l) {
		f(l)
		return
	}
	for j := i; j < len(l); j++ {
		l[i], l[j] = l[j], l[i]
		orders(l, i+1, f)
		l[i], l[j] = l[j], l[i]
	}
}

// P7.3: drawn sequences of which no call is refused make the same classes with the same marks in all orders that are drawn, and whichever element a tie names first.
func TestDrawnOrders(t *testing.T) {
	r := rand.New(rand.NewSource(5))
	for range 300 {
		n, l, m := drawnWhole(r)
		for range 6 {
			k := elements(n)
			for _, c := range l {
				if !c.do(k) {
					t.Fatalf("%v is refused in %v", c, l)
				}
			}
			checkKnot(t, k, m)
			if t.Failed() {
				t.Fatal(l)
			}
			r.Shuffle(len(l), func(i, j int) { l[i], l[j] = l[j], l[i] })
			for i, c := range l {
				if c.kind == tie && r.Intn(2) == 0 {
					l[i] = call{tie, c.b, c.a}
				}
			}
		}
	}
}

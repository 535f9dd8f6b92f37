package knot_test

import (
	"math/rand"
	"slices"
	"testing"
)

// many is a number of elements at which a walk over all of them in each call would take too long. An element is to be in the class of its remainder by groups.
const many, groups = 100003, 5

// chains are ties of each element to the next one of its class.
func chains() [][2]int {
	var l [][2]int
	for a := range many - groups {
		l = append(l, [2]int{a, a + groups})
	}
	return l
}

// stars are ties of each element to the least one of its class.
func stars() [][2]int {
	var l [][2]int
	for a := range many {
		l = append(l, [2]int{a, a % groups})
	}
	return l
}

// P7.1, P7.3: a great many elements that are tied step by step, in any direction and any order, are the same classes.
func TestManyElements(t *testing.T) {
	mixed := chains()
	rand.New(rand.NewSource(1)).Shuffle(len(mixed), func(i, j int) { mixed[i], mixed[j] = mixed[j], mixed[i] })
	for _, pairs := range [][][2]int{chains(), stars(), mixed} {
		checkGroups(t, pairs)
		slices.Reverse(pairs)
		checkGroups(t, pairs)
		for i, p := range pairs {
			pairs[i] = [2]int{p[1], p[0]}
		}
		checkGroups(t, pairs)
	}
}

// checkGroups holds the classes that these ties make against the elements' remainders; a class with a remainder above 0 gets that as its mark, at its last element.
func checkGroups(t *testing.T, pairs [][2]int) {
	t.Helper()
	k := tied(t, many, pairs...)
	checkLen(t, k, many)
	for a := many - groups; a < many; a++ {
		checkMark(t, k, a, a%groups, a%groups > 0)
	}
	for a := range many {
		g := a % groups
		checkLeast(t, k, a, g)
		checkOf(t, k, a, g)
		checkAlike(t, k, a, many-1, g == (many-1)%groups)
		if t.Failed() {
			return
		}
	}
	checkTie(t, k, many-1, many-2, false)
	checkTie(t, k, many/groups*groups, many-1, true)
	checkLeast(t, k, many-1, 0)
	checkOf(t, k, 0, (many-1)%groups)
}

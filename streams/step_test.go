package streams_test

import (
	"math"
	"reflect"
	"testing"

	"pendule/api"
	"pendule/streams"
)

// checkStep holds what a step yields, written as for showStreams.
func checkStep(t *testing.T, y *streams.Play, want string, ins ...int64) {
	t.Helper()
	if l, err := y.Step(ins); err != api.OK || showStreams([][]api.Cell{l}) != want {
		t.Errorf("Step(%v): %v, error %d, want %s", ins, l, err, want)
	}
}

// checkRefused holds that Step takes none of the rows.
func checkRefused(t *testing.T, y *streams.Play, rows ...[]int64) {
	t.Helper()
	for _, ins := range rows {
		if l, err := y.Step(ins); err != api.ErrArg || len(l) > 0 {
			t.Errorf("Step(%v): %v, error %d, want %d", ins, l, err, api.ErrArg)
		}
	}
}

// P13.1: Step plays one instant after the other.
func TestStep(t *testing.T) {
	y := begun(t, program(t, "node main (x) = (y) where y = 0 fby y + x; end"), "main")
	for i, want := range []string{"0", "1", "3", "6"} {
		checkStep(t, y, want, int64(i+1))
	}
	y = begun(t, program(t, "node main (x, z) = (v, w) where w = pre x; v = z -> w; end"), "main")
	checkStep(t, y, "7; nil", 5, 7)
	checkStep(t, y, "5; 5", -6, 8)
	checkStep(t, y, "-6; -6", 0, 0)
}

// P13.1: Step takes as many values as there are Ins.
func TestCountsOfValues(t *testing.T) {
	y := begun(t, program(t, "node main (x) = (y) where y = x; end"), "main")
	checkRefused(t, y, nil, []int64{}, []int64{1, 2}, make([]int64, 6), make([]int64, 1000))
	checkStep(t, y, "3", 3)
	y = begun(t, program(t, "node main (a, b, c, d, e, f) = (y, z) where y = a + 2 * b + 3 * c; z = d + 2 * e + 3 * f; end"), "main")
	checkRefused(t, y, nil, []int64{1}, make([]int64, 5), make([]int64, 7))
	checkStep(t, y, "14; 32", 1, 2, 3, 4, 5, 6)
}

// P13.1: a value is of its type: a boolean, the index of a constructor, or any integer where the type is another one or any.
func TestTypesOfValues(t *testing.T) {
	y := begun(t, program(t, "type one = One; type three = A | B | C; type two = D | E; "+
		"node main (b, k, o, i, v, w) = (y) where y = merge k (A -> merge l (D -> 1 | E -> 2) | B -> i when B(k) | C -> if b when C(k) then 3 else 4); l = D when A(k); z = o = One; u = v = w; end"), "main")
	const least, most = math.MinInt64, math.MaxInt64
	checkStep(t, y, "1", 0, 0, 0, 0, 0, 0)
	checkStep(t, y, "4", 0, 2, 0, least, most, least)
	checkStep(t, y, "3", 1, 2, 0, most, least, most)
	checkStep(t, y, "-5", 1, 1, 0, -5, 1000, -1000)
	for _, b := range []int64{2, 3, -1, least, most, 1 << 32, 1<<32 + 1} {
		checkRefused(t, y, []int64{b, 0, 0, 0, 0, 0})
	}
	for _, k := range []int64{3, 4, -1, least, most, 1 << 32, 1<<62 + 1} {
		checkRefused(t, y, []int64{0, k, 0, 0, 0, 0})
	}
	for _, o := range []int64{1, 2, -1, least, most, 1 << 32} {
		checkRefused(t, y, []int64{0, 0, o, 0, 0, 0})
	}
}

// P13.1: the enum of an In is the one that its type names, as layer 8 infers it from all of the program.
func TestTypesByCalls(t *testing.T) {
	p := program(t, "type three = A | B | C; type two = D | E; node same (x) = (y) where y = x; end node d (x) = (y) where y = x = D; end node c (x) = (y) where y = x = C; end "+
		"node main (x, z, v) = (y) where y = d(same(x)) and c(z) and same(v); end")
	y := begun(t, p, "main")
	checkStep(t, y, "1", 0, 2, 1)
	checkStep(t, y, "0", 1, 2, 1)
	checkRefused(t, y, []int64{2, 0, 0}, []int64{0, 3, 0}, []int64{0, 0, 2})
	y = begun(t, p, "same")
	checkStep(t, y, "-77", -77)
}

// P13.1: a step that is refused changes nothing.
func TestRefusedSteps(t *testing.T) {
	p := program(t, prelude+"node main (x, c) = (y, z) where y = total(x) every c; z = count(x) -> pre x; end")
	y := begun(t, p, "main")
	bad := [][]int64{nil, {1}, {1, 2}, {1, 1, 1}, {1, -1}}
	checkRefused(t, y, bad...)
	for i, want := range []string{"5; 1", "10; 5", "5; 5", "10; 5"} {
		checkStep(t, y, want, 5, []int64{0, 0, 1, 0}[i])
		checkRefused(t, y, bad...)
	}
	y.Begin()
	checkRefused(t, y, bad...)
	checkStep(t, y, "7; 1", 7, 0)
}

// P13.3: after Begin, everything is as at the beginning, at any instant.
func TestBegin(t *testing.T) {
	p := program(t, prelude+"node main (x, c) = (y, z, v, w) where y = total(x) every c; z = merge c (False -> count(1) | True -> count(2) + 10); v = pre x -> x; w = 0 fby pre (count(x) fby total(x)); end")
	want := []string{"3; 1; nil; 0", "8; 2; 5; nil", "6; 11; 6; 1", "11; 3; 5; 3", "6; 12; 6; 8", "9; 4; 3; 14"}
	script := [][]int64{{3, 0}, {5, 0}, {6, 1}, {5, 0}, {6, 1}, {3, 0}}
	y := begun(t, p, "main")
	for n := range len(script) + 1 {
		for range 2 {
			for i := range n {
				checkStep(t, y, want[i], script[i]...)
			}
			y.Begin()
		}
		y.Begin()
	}
}

// P13.1, R7: of a nil Play, Step is ErrArg and Begin does nothing; so it is with one that New did not return.
func TestNilPlays(t *testing.T) {
	for _, y := range []*streams.Play{nil, {}} {
		checkRefused(t, y, nil, []int64{}, []int64{1})
		y.Begin()
		checkRefused(t, y, nil, []int64{}, []int64{1})
	}
}

// P13.3, R6: plays of one program have nothing to do with one another.
func TestSeveralPlays(t *testing.T) {
	p := program(t, prelude+"node main (x) = (y) where y = total(x) + (100 -> 10 * pre x); end")
	y, z := begun(t, p, "main"), begun(t, p, "main")
	checkStep(t, y, "101", 1)
	checkStep(t, y, "13", 2)
	checkStep(t, z, "105", 5)
	checkStep(t, y, "26", 3)
	y.Begin()
	checkStep(t, z, "55", 0)
	checkStep(t, y, "101", 1)
	checkStep(t, z, "5", 0)
}

// P13.1: Run begins anew each time, and yields what Step does.
func TestRun(t *testing.T) {
	p := program(t, prelude+"node main (x, c) = (y, z) where y = total(x) every c; z = pre x; end")
	script := [][]int64{{1, 0}, {2, 0}, {3, 1}, {4, 0}}
	for range 3 {
		if got := showStreams(played(t, p, "main", script)); got != "1 3 3 7; nil 1 2 3" {
			t.Errorf("Run: %s", got)
		}
	}
	if l := played(t, p, "main", nil); len(l) > 0 {
		t.Errorf("Run of no rows: %v", l)
	}
	y := begun(t, p, "main")
	for i, row := range played(t, p, "main", script) {
		if l, _ := y.Step(script[i]); !reflect.DeepEqual(l, row) {
			t.Errorf("Step: %v, and Run: %v", l, row)
		}
	}
	long := readScript(t, "1 1 1 1 1 1 1 1 1 1 1 1 1 1 1 1 1 1 1 1 1 1 1 1 1 1 1 1 1 1 1 1 1 1 1 1 1 1 1 1 1 1 1 1 1 1 1 1 1 1 1 1 1 1 1 1 1 1 1 1 1 1 1 1")
	l := played(t, p, "total", long)
	if len(l) != api.MaxSteps || l[len(l)-1][0] != (api.Cell{Kind: api.Value, N: api.MaxSteps}) {
		t.Errorf("Run of %d rows: %v", len(long), l)
	}
}

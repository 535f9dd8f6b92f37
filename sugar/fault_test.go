package sugar_test

import (
	"strconv"
	"strings"
	"testing"

	"pendule/api"
	"pendule/scope"
)

// checkBound holds the error of the translation of a program, which itself has no fault.
func checkBound(t *testing.T, p api.Program, want api.Errno) {
	t.Helper()
	if f := scope.Check(p, false); f != (api.Fault{}) {
		t.Fatalf("%.300s has the fault %v", textOf(p), f)
	}
	checkFault(t, p, api.Fault{Err: want})
}

// P6.1: the faults of layer 5 are returned as they are.
func TestFaultsOfScope(t *testing.T) {
	checkFault(t, api.Program{}, api.Fault{Err: api.ErrField})
	checkFault(t, program(t, "type t = A; type u = A; "+nodes), api.Fault{Err: api.ErrScope, A: -1, B: 1})
	checkFault(t, program(t, nodes+nodes), api.Fault{Err: api.ErrScope, A: 3, B: -1})
	for b, items := range []string{
		"y = z ;",
		"y = x ; automaton state A : z = x ; until x then B ; end ;",
		"y = x ; z = x ; automaton state A : v = x ; state A : v = x ; end ;",
	} {
		checkFault(t, program(t, inNode(items)), api.Fault{Err: api.ErrScope, A: 3, B: b})
	}
	for _, items := range []string{
		"y = match z ( One -> x ) ;", "y = match x ( Red -> 1 | Green -> 2 ) ;", "y = match x ( Red -> 1 | Blue -> 2 | Green -> 3 ) ;",
		"y = match x ( One -> match x ( One -> 1 ) ) ;", "y = match x ( One -> x when One ( x ) ) ;", "y = match x ( One -> merge x ( One -> 1 ) ) ;",
		"automaton state A : y = match x ( One -> 1 ) ; end ;", "automaton state A : y = x when One ( x ) ; end ;",
		"automaton state A : y = x ; until merge x ( One -> 1 ) then A ; end ;", "automaton state A : y = A ; end ;", "automaton state Red : y = x ; end ;",
		"automaton state A : y = x ; state B : end ;", "automaton state A : y = x ; state B : z = x ; end ;", "automaton state A : ( y , z ) = two ( x , x ) ; end ;",
	} {
		checkFault(t, program(t, inNode(items)), api.Fault{Err: api.ErrScope, A: 3})
	}
}

// P6.1: a source program has no generated names, not even those that no automaton takes.
func TestGeneratedNames(t *testing.T) {
	for _, made := range []string{"_s0", "_n0", "_t0", "_x"} {
		for _, change := range []func(p *api.Program){
			func(p *api.Program) { p.Enums[0].Name = made },
			func(p *api.Program) { p.Nodes[3].Ins[0] = made },
			func(p *api.Program) { p.Nodes[3].Items[0].E.Name = made },
		} {
			p := program(t, types+nodes+"node f ( x ) = ( y ) where y = c ; c = 1 ; end")
			change(&p)
			checkFault(t, p, api.Fault{Err: api.ErrField})
		}
	}
}

// automata returns n automata, each with one state, which define names that begin with the prefix.
func automata(n int, prefix string) string {
	var l []string
	for k := range n {
		l = append(l, single(strings.ToUpper(prefix)+strconv.Itoa(k), prefix+strconv.Itoa(k)))
	}
	return strings.Join(l, "")
}

// manyAutomata returns a node with n automata.
func manyAutomata(name string, n int) string {
	return "node " + name + " ( x ) = ( y ) where " + automata(n, name) + "y = x ; end "
}

// enums returns n enums with one constructor each.
func enums(n int) string {
	s := ""
	for k := range n {
		s += "type e" + strconv.Itoa(k) + " = E" + strconv.Itoa(k) + " ; "
	}
	return s
}

// P6.1: a translation may have 32 enums, those of the program and those of the automata, and not one more.
func TestBoundOfEnums(t *testing.T) {
	for _, x := range []struct {
		types, f, g int
		want        api.Errno
	}{
		{8, 12, 12, api.OK}, {8, 12, 13, api.ErrField}, {8, 23, 1, api.OK}, {8, 23, 2, api.ErrField},
		{0, 16, 16, api.OK}, {0, 17, 16, api.ErrField}, {0, 23, 23, api.ErrField}, {1, 23, 8, api.OK}, {1, 23, 9, api.ErrField},
	} {
		checkBound(t, program(t, enums(x.types)+manyAutomata("f", x.f)+manyAutomata("g", x.g)), x.want)
	}
}

// P6.1: a translation may have any number of items.
func TestManyItems(t *testing.T) {
	p := program(t, "node f ( x ) = ( a0 ) where "+automata(24, "a")+"end")
	want := ""
	types := ""
	for k := range 24 {
		s := strconv.Itoa(k)
		types += "type _t" + s + " = A" + s + " ; "
		want += made(s, "A"+s, "a"+s)
	}
	checkTranslation(t, p, types+"node f ( x ) = ( a0 ) where "+want+"end")
}

// deep returns an expression of the depth n, in which e is the innermost.
func deep(n int, e string) string { return strings.Repeat("- ", n-1) + e }

// P6.1: no expression of a translation is deeper than 40.
func TestBoundOfDepth(t *testing.T) {
	for _, x := range []struct {
		items string
		want  api.Errno
	}{
		{"y = match x ( One -> " + deep(39, "1") + " ) ;", api.OK}, // no deeper than before
		{"y = match x ( One -> " + deep(38, "x") + " ) ;", api.OK},
		{"y = match x ( One -> " + deep(39, "x") + " ) ;", api.ErrBound},
		{"y = " + deep(3, "match x ( One -> "+deep(36, "x")+" )") + " ;", api.OK},
		{"y = " + deep(3, "match x ( One -> "+deep(37, "x")+" )") + " ;", api.ErrBound},
		{"y = x ; automaton state A : z = " + deep(39, "1") + " ; end ;", api.OK},
		{"y = x ; automaton state A : z = " + deep(40, "1") + " ; end ;", api.ErrBound},
		{"y = x ; automaton state A : z = 1 ; state B : z = " + deep(38, "x") + " ; end ;", api.OK},
		{"y = x ; automaton state A : z = 1 ; state B : z = " + deep(39, "x") + " ; end ;", api.ErrBound},
		{"y = x ; automaton state A : until " + deep(38, "true") + " then A ; end ;", api.OK},
		{"y = x ; automaton state A : until " + deep(39, "true") + " then A ; end ;", api.ErrBound},
		{"y = x ; automaton state A : until true then A ; until true then A ; until true then A ; until " + deep(34, "x") + " then A ; end ;", api.OK},
		{"y = x ; automaton state A : until true then A ; until true then A ; until true then A ; until " + deep(35, "x") + " then A ; end ;", api.ErrBound},
		{"y = " + deep(40, "x") + " ;", api.OK},
	} {
		checkBound(t, program(t, inNode(x.items)), x.want)
	}
}

// sized returns items that define y by expressions of the size n in all, which a translation leaves as they are.
func sized(n int) string {
	s := "y = 1 ; "
	for n--; n > 0; n -= 30 {
		s += "filler" + strconv.Itoa(n) + " = " + deep(min(n, 30), "1") + " ; "
	}
	return s
}

// P6.1: the sizes of the expressions of a node of a translation add up to 300 at most.
func TestBoundOfSize(t *testing.T) {
	row := strings.Repeat("x , ", 5) + "x"
	wide := "h ( " + strings.Repeat("h ( "+row+" ) , ", 5) + "h ( " + row + " ) )" // of the size 43; 79 when its 36 variables are sampled
	match := func(name string) string { return name + " = match x ( One -> " + wide + " ) ; " }
	for _, x := range []struct {
		items string
		size  int // after the translation
	}{
		{"", 0},
		{match("a"), 80},
		{match("a") + match("b") + match("d"), 240},
		{"automaton state A : a = 1 ; end ; ", 3 + 2 + 2},
		{"automaton state A : a = " + wide + " ; end ; automaton state B : b = " + wide + " ; end ; ", 2 * (3 + 80 + 2)},
		{"automaton state A : until " + wide + " then A ; state B : end ; ", 3 + 1 + (1 + 79 + 2) + 1},
		{"automaton state A : a = x ; b = 1 ; until x then B ; until 2 then A ; state B : b = x ; a = 2 ; end ; ", 3 + 4 + 4 + 1 + (1 + 2 + 1 + 4) + 1},
	} {
		checkBound(t, program(t, inNode(x.items+sized(300-x.size))), api.OK)
		p := program(t, inNode(x.items+sized(300-x.size))+" node k ( x ) = ( y ) where "+sized(300)+"end")
		checkBound(t, p, api.OK)
		if x.size > 0 {
			checkBound(t, program(t, inNode(x.items+sized(301-x.size))), api.ErrBound)
		}
	}
}

// P6.1: a translation that is not well-formed and too large at once is not well-formed.
func TestOrderOfErrors(t *testing.T) {
	large := "node k ( x ) = ( y ) where automaton state B : z = " + deep(40, "x") + " ; end ; " + sized(9) + "end "
	checkBound(t, program(t, enums(8)+large+manyAutomata("f", 23)), api.ErrBound)
	checkBound(t, program(t, enums(8)+large+manyAutomata("f", 12)+manyAutomata("g", 12)), api.ErrField)
}

// R1: the fault of the program comes ahead of that of its translation.
func TestFaultsOfBoth(t *testing.T) {
	deepAutomaton := "automaton state A : a = " + deep(40, "x") + " ; end ; "
	checkFault(t, program(t, inNode(deepAutomaton+"y = undefined ;")), api.Fault{Err: api.ErrScope, A: 3, B: 1})
	tooDeep := program(t, inNode(deepAutomaton+"y = x ;"))
	tooDeep.Nodes[3].Items[1].E = api.Expr{Op: api.Pre, Kids: []api.Expr{expr(t, deep(40, "undefined"))}}
	checkFault(t, tooDeep, api.Fault{Err: api.ErrBound})
}

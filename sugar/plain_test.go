package sugar_test

import (
	"strconv"
	"strings"
	"testing"

	"pendule/api"
	"pendule/sugar"
	"pendule/tree"
)

// P6.1: the example of the chapter.
func TestExample(t *testing.T) {
	p := program(t, "type t = A | B; node f(x, y) = (z) where z = match x (A -> y + 1 | B -> 2); end")
	q := program(t, "type t = A | B; node f(x, y) = (z) where z = merge x (A -> (y when A(x)) + 1 | B -> 2); end")
	got, f := sugar.Plain(p)
	if f != (api.Fault{}) || !tree.Same(got, q) {
		t.Errorf("Plain = %v, %v, want %v", got, f, q)
	}
}

// P6.1: matches, alone and inside of other expressions.
func TestMatches(t *testing.T) {
	checkPlain(t, "y = match c ( False -> x | True -> 0 fby x ) ;", "",
		"y = merge c ( False -> ( x when False ( c ) ) | True -> ( 0 fby ( x when True ( c ) ) ) ) ;")
	checkPlain(t, "y = match x ( Red -> Red | Green -> 1 | Blue -> c ) ;", "",
		"y = merge x ( Red -> Red | Green -> 1 | Blue -> ( c when Blue ( x ) ) ) ;")
	checkPlain(t, "y = match y ( One -> y ) ;", "", "y = merge y ( One -> ( y when One ( y ) ) ) ;")
	checkPlain(t, "y = match c ( False -> inc ( x ) | True -> twice [ inc ] ( g ( x ) every c ) ) ;", "",
		"y = merge c ( False -> inc ( ( x when False ( c ) ) ) | True -> twice [ inc ] ( ( g ( ( x when True ( c ) ) ) every ( c when True ( c ) ) ) ) ) ;")
}

// P6.1: a match is translated wherever it may stand, and what is around it stays.
func TestMatchesInside(t *testing.T) {
	const match, merged = "match x ( One -> c )", "merge x ( One -> ( c when One ( x ) ) )"
	for _, around := range []string{
		"( not @ )", "( - @ )", "( @ + x )", "( x + @ )", "( if @ then @ else @ )", "( @ fby x )", "( x fby @ )", "( pre @ )", "( @ -> x )", "( x -> @ )",
		"( @ when Red ( c ) )", "merge c ( False -> @ | True -> ( x when True ( c ) ) )", "merge c ( False -> x | True -> ( @ + @ ) )",
		"inc ( @ )", "h ( @ , @ )", "g ( x , @ )", "twice [ g ] ( @ )", "( inc ( @ ) every x )", "( inc ( x ) every @ )", "( inc ( @ ) every @ )",
		"( pre ( pre ( inc ( @ ) -> @ ) ) )",
	} {
		checkPlain(t, "y = "+strings.ReplaceAll(around, "@", match)+" ;", "", "y = "+strings.ReplaceAll(around, "@", merged)+" ;")
	}
	checkPlain(t, "( y , z ) = two ( x , match x ( One -> c ) ) ; ( u , v ) = ( two ( x , x ) every match x ( One -> c ) ) ;", "",
		"( y , z ) = two ( x , "+merged+" ) ; ( u , v ) = ( two ( x , x ) every "+merged+" ) ;")
}

// P6.1: an automaton becomes an enum, a delay, a merge for each name and one for the next state.
func TestAutomaton(t *testing.T) {
	checkPlain(t, "automaton state Up : y = ( 0 fby y + 1 ) ; until y = 3 then Down ; state Down : y = x ; end ;", "type _t0 = Up | Down ;",
		"_s0 = ( Up fby _n0 ) ; "+
			"y = merge _s0 ( Up -> ( 0 fby ( ( y when Up ( _s0 ) ) + 1 ) ) | Down -> ( x when Down ( _s0 ) ) ) ; "+
			"_n0 = merge _s0 ( Up -> ( if ( ( y when Up ( _s0 ) ) = 3 ) then Down else Up ) | Down -> Down ) ;")
}

// P6.1: the first transition whose condition holds is taken, and a state without transitions is kept.
func TestTransitions(t *testing.T) {
	checkPlain(t, "automaton state A : y = 1 ; until x then B ; until true then A ; until not c then C ; until inc ( x ) every c then B ; "+
		"state B : y = 2 ; until pre x then B ; state C : y = Red ; end ;",
		"type _t0 = A | B | C ;",
		"_s0 = ( A fby _n0 ) ; y = merge _s0 ( A -> 1 | B -> 2 | C -> Red ) ; "+
			"_n0 = merge _s0 ( A -> ( if ( x when A ( _s0 ) ) then B else ( if true then A else ( if ( not ( c when A ( _s0 ) ) ) then C else "+
			"( if ( inc ( ( x when A ( _s0 ) ) ) every ( c when A ( _s0 ) ) ) then B else A ) ) ) ) "+
			"| B -> ( if ( pre ( x when B ( _s0 ) ) ) then B else B ) | C -> C ) ;")
}

// P6.1: an automaton with one state, and one whose states define nothing.
func TestSmallAutomata(t *testing.T) {
	checkPlain(t, "automaton state A : y = x ; end ;", "type _t0 = A ;",
		"_s0 = ( A fby _n0 ) ; y = merge _s0 ( A -> ( x when A ( _s0 ) ) ) ; _n0 = merge _s0 ( A -> A ) ;")
	checkPlain(t, "y = x ; automaton state A : until x then A ; state B : end ;", "type _t0 = A | B ;",
		"y = x ; _s0 = ( A fby _n0 ) ; _n0 = merge _s0 ( A -> ( if ( x when A ( _s0 ) ) then A else A ) | B -> B ) ;")
	checkPlain(t, "automaton state A : until x then B ; state B : end ; y = x ;", "type _t0 = A | B ;",
		"_s0 = ( A fby _n0 ) ; _n0 = merge _s0 ( A -> ( if ( x when A ( _s0 ) ) then B else A ) | B -> B ) ; y = x ;")
}

// P6.1: the names are in the order of the first state, and each is given what each state defines it as.
func TestOrderOfNames(t *testing.T) {
	checkPlain(t, "automaton state A : y = 1 ; b = 2 ; a = 3 ; state B : a = 4 ; y = 5 ; b = 6 ; state C : b = 7 ; a = 8 ; y = 9 ; end ;", "type _t0 = A | B | C ;",
		"_s0 = ( A fby _n0 ) ; y = merge _s0 ( A -> 1 | B -> 5 | C -> 9 ) ; b = merge _s0 ( A -> 2 | B -> 6 | C -> 7 ) ; "+
			"a = merge _s0 ( A -> 3 | B -> 4 | C -> 8 ) ; _n0 = merge _s0 ( A -> A | B -> B | C -> C ) ;")
}

// single returns an automaton with one state, which defines one name.
func single(state, name string) string {
	return "automaton state " + state + " : " + name + " = x ; end ; "
}

// made returns the translation of what single returns, if it has the number k.
func made(k, state, name string) string {
	const text = "_s# = ( S fby _n# ) ; NAME = merge _s# ( S -> ( x when S ( _s# ) ) ) ; _n# = merge _s# ( S -> S ) ; "
	return strings.NewReplacer("#", k, "S", state, "NAME", name).Replace(text)
}

// P6.1: automata are numbered node by node and item by item, matches and equations between them keep their places.
func TestNumbers(t *testing.T) {
	items := func(a, b string) string {
		return single(a, "a") + "b = match x ( One -> a ) ; " + single(b, "y")
	}
	wanted := func(k, l, a, b string) string {
		return made(k, a, "a") + "b = merge x ( One -> ( a when One ( x ) ) ) ; " + made(l, b, "y")
	}
	const ahead, next = "node k ( x ) = ( y ) where ", "end node l ( x ) = ( y ) where y = x ; end node m ( x ) = ( y ) where "
	p := program(t, types+ahead+items("P", "Q")+next+items("T", "U")+"end")
	checkTranslation(t, p, types+"type _t0 = P ; type _t1 = Q ; type _t2 = T ; type _t3 = U ; "+
		ahead+wanted("0", "1", "P", "Q")+next+wanted("2", "3", "T", "U")+"end")
}

// P6.1: numbers above 9 are decimal.
func TestManyAutomata(t *testing.T) {
	items, enums, want := "y = x ; ", "", "y = x ; "
	for k := range 12 {
		number, state, name := strconv.Itoa(k), "A"+strconv.Itoa(k), "a"+strconv.Itoa(k)
		items += single(state, name)
		enums += "type _t" + number + " = " + state + " ; "
		want += made(number, state, name)
	}
	checkPlain(t, items, enums, want)
}

// P6.2: a program without automata and matches is returned unchanged.
func TestPlainAlready(t *testing.T) {
	for _, items := range []string{
		"y = x ;",
		"( y , z ) = two ( ( 0 fby x ) , 1 ) ; ( u ) = ( inc ( x ) every c ) ;",
		"y = merge c ( False -> ( x when False ( c ) ) | True -> ( pre ( x -> 2 ) ) ) ; z = merge x ( Red -> 1 | Green -> Red | Blue -> g ( x ) ) ;",
		"y = ( if c then twice [ h ] ( - x ) else ( not true ) ) ; u = ( ( x when One ( c ) ) when Red ( y ) ) ;",
	} {
		p := program(t, inNode(items))
		q, f := sugar.Plain(p)
		if f != (api.Fault{}) || !tree.Same(p, q) {
			t.Errorf("Plain(%v) = %v, %v", p, q, f)
		}
		checkApart(t, p, q)
	}
}

// all is every construct that is translated, together with those that are not.
const all = "y = match c ( False -> x | True -> inc ( x ) ) ; ( u , v ) = ( two ( x , c ) every match x ( One -> c ) ) ; " +
	"automaton state A : z = ( 0 fby z ) ; w = twice [ g ] ( x ) ; until x then B ; until z < 3 then A ; state B : w = h ( x ) every c ; z = Red ; end ; " +
	"q = merge c ( False -> ( x when False ( c ) ) | True -> ( if true then - x else pre x ) ) ; " +
	"automaton state C : r = x -> 1 ; end ;"

// P6.1, R4: the result shares no memory with the argument, nor with itself.
func TestMemory(t *testing.T) {
	p := program(t, inNode(all))
	q, _ := sugar.Plain(p)
	checkApart(t, p, q)
	for k := range p.Nodes { // lists with room behind their ends
		p.Nodes[k].Ins = append(make([]string, 0, 9), p.Nodes[k].Ins...)
		p.Nodes[k].Items = append(make([]api.Item, 0, 99), p.Nodes[k].Items...)
	}
	q, _ = sugar.Plain(p)
	again, _ := sugar.Plain(p)
	checkApart(t, p, q)
	checkApart(t, q, again)
	if !tree.Same(q, again) {
		t.Errorf("%v is translated differently the second time, %v", q, again)
	}
}

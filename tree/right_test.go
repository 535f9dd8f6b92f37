package tree_test

import (
	"slices"
	"strconv"
	"strings"
	"testing"

	"pendule/api"
	"pendule/tree"
)

// long has as many bytes as a name may have, but for its first one.
var long = strings.Repeat("x", api.MaxName-1)

var keywords = strings.Fields("type node where end automaton state until then if else fby pre not and or when merge match every true false")

// What may and what may not stand where a name, or a constructor, is asked for. Generated ones are right only if made.
var (
	goodNames = []string{"x", "z9_Z", "fbyx", "m", "x_", "a" + long}
	goodCons  = []string{"X", "Z9_z", "True", "False", "X_", "A" + long}
	badWords  = append(slices.Clone(keywords), "", "_", "__", "__x", "__X", "_1", "1", "1x", "x y", " x", "x ", "X ", "x\n", "é", "xé", "x-", "-", "x__é", "?", "_ x", "x\x00",
		"a"+long+"b", "A"+long+"b", "_a"+long+"b", "_A"+long+"b", "_fby", "_true")
)

func generated(l []string) []string {
	var g []string
	for _, s := range l {
		g = append(g, "_"+s)
	}
	return g
}

func checkRight(t *testing.T, what string, p api.Program, given, made api.Errno) {
	t.Helper()
	checkErr(t, what+", given", tree.Right(p, false), given)
	checkErr(t, what+", made", tree.Right(p, true), made)
}

// checkExpr holds e against want: as an expression of an equation, of a state, of a transition, and as a kid.
func checkExpr(t *testing.T, what string, e api.Expr, want api.Errno) {
	t.Helper()
	state := api.State{Name: "S", Eqs: []api.Eq{{Names: []string{"y"}, E: e}}}
	way := api.State{Name: "S", Ways: []api.Way{{If: e, To: "S"}}}
	for where, p := range map[string]api.Program{
		"equation":   with(e),
		"state":      program(api.Item{States: []api.State{{Name: "R"}, state}}),
		"transition": program(api.Item{States: []api.State{{Name: "R"}, way}}),
		"kid":        with(of(api.Fby, v("x"), un("-", e))),
		"last item":  program(equation(v("x"), "z"), equation(e, "y")),
	} {
		checkRight(t, what+" in "+where, p, want, want)
	}
}

// P2.1: every row of the table of expressions, and a whole program.
func TestRight(t *testing.T) {
	for _, e := range small() {
		checkExpr(t, tree.Show(e), e, api.OK)
	}
	checkRight(t, "full", full(), api.OK, api.OK)
	checkRight(t, "no items", program(), api.OK, api.OK)
	checkRight(t, "empty program", api.Program{}, api.ErrField, api.ErrField)
	checkRight(t, "no nodes", api.Program{Enums: full().Enums}, api.ErrField, api.ErrField)
}

// P2.1: a field that the row of an Op does not name is zero.
func TestOtherFieldsAreZero(t *testing.T) {
	x := v("x")
	named := []int{api.Con, api.Var, api.Un, api.Bin, api.When, api.Merge, api.Match, api.Call}
	listed := []int{api.When, api.Merge, api.Match, api.Call}
	for _, e := range small() {
		what := tree.Show(e)
		if !slices.Contains(named, e.Op) {
			for _, s := range []string{"x", "X", "+", "?"} {
				c := clone(e)
				c.Name = s
				checkExpr(t, what+" named "+s, c, api.ErrField)
			}
		}
		if e.Op != api.Int && e.Op != api.Bool {
			for _, n := range []int64{1, -1, 1 << 32, -1 << 63} {
				c := clone(e)
				c.N = n
				checkExpr(t, what+" with N", c, api.ErrField)
			}
		}
		if !slices.Contains(listed, e.Op) {
			for _, s := range []string{"x", "X", ""} {
				c := clone(e)
				c.Cons = []string{s}
				checkExpr(t, what+" with Cons", c, api.ErrField)
			}
		}
		if len(e.Kids) == 0 {
			c := clone(e)
			c.Kids = []api.Expr{x}
			checkExpr(t, what+" with a kid", c, api.ErrField)
		}
	}
}

// P2.1: how many kids each row has.
func TestCountsOfKids(t *testing.T) {
	x := v("x")
	for n := range 10 {
		l := copies(n, x)
		for what, c := range map[string]struct {
			e  api.Expr
			ok bool
		}{
			"un":      {un("-", l...), n == 1},
			"pre":     {of(api.Pre, l...), n == 1},
			"when":    {when("A", "c", l...), n == 1},
			"bin":     {bin("+", l...), n == 2},
			"fby":     {of(api.Fby, l...), n == 2},
			"arrow":   {of(api.Arrow, l...), n == 2},
			"if":      {of(api.If, l...), n == 3},
			"every":   {of(api.Every, append([]api.Expr{call("f", "", x)}, l...)...), n == 1},
			"call":    {call("f", "", l...), 1 <= n && n <= 6},
			"merge":   {arms(api.Merge, "c", words(n, "A"), l...), 1 <= n && n <= 8},
			"match":   {arms(api.Match, "c", words(n, "A"), l...), 1 <= n && n <= 8},
			"more":    {arms(api.Merge, "c", words(n, "A"), copies(n+1, x)...), false},
			"fewer":   {arms(api.Match, "c", words(n+1, "A"), l...), false},
			"samples": {when(words(n, "A"), "c", x), n == 1},
			"statics": {call("f", words(n, "g"), x), n <= 6},
		} {
			want := api.ErrField
			if c.ok {
				want = api.OK
			}
			checkExpr(t, what+" "+strconv.Itoa(n), c.e, want)
		}
	}
	checkExpr(t, "every without kids", of(api.Every), api.ErrField)
}

// P2.1: what an expression may not be.
func TestIllFormedExpressions(t *testing.T) {
	x := v("x")
	for what, e := range map[string]api.Expr{
		"zero":                 {},
		"memory":               {Op: api.Mem},
		"memory with N":        {Op: api.Mem, N: 1},
		"negative Op":          {Op: -1},
		"great Op":             {Op: 17, Kids: []api.Expr{x}},
		"Int below 0":          num(-1),
		"least Int":            num(-1 << 63),
		"Bool 2":               boolean(2),
		"Bool -1":              boolean(-1),
		"Bin not":              bin("not", x, x),
		"Un +":                 un("+", x),
		"Un and":               un("and", x),
		"Un without a name":    un("", x),
		"Bin without a name":   bin("", x, x),
		"Bin >":                bin(">", x, x),
		"Bin >=":               bin(">=", x, x),
		"Bin fby":              bin("fby", x, x),
		"Bin ->":               bin("->", x, x),
		"Bin with spaces":      bin(" + ", x, x),
		"Bin of all operators": bin("+-", x, x),
		"Bin _+":               bin("_+", x, x),
		"Every of a variable":  of(api.Every, x, x),
		"Every of an Every":    of(api.Every, of(api.Every, call("f", "", x), x), x),
		"Every the wrong way":  of(api.Every, x, call("f", "", x)),
		"Con of a name":        con("x"),
		"Var of a constructor": v("X"),
		"bad kid":              un("-", bin("+", x, num(-1))),
		"bad call of an Every": of(api.Every, call("F", "", x), x),
	} {
		checkExpr(t, what, e, api.ErrField)
	}
}

// spot is a place of a name or of a constructor in a program.
type spot struct {
	what string
	p    func(s string) api.Program
}

func spotsOfNames() []spot {
	x := v("x")
	list := func(s string) []string { return []string{"a", s, "b"} }
	item := func(i api.Item) api.Program { return program(equation(x, "z"), i) }
	return []spot{
		{"enum", func(s string) api.Program { p := full(); p.Enums[1].Name = s; return p }},
		{"node", func(s string) api.Program { p := full(); p.Nodes[1].Name = s; return p }},
		{"funs", func(s string) api.Program { p := full(); p.Nodes[0].Funs = list(s); return p }},
		{"ins", func(s string) api.Program { p := full(); p.Nodes[1].Ins = list(s); return p }},
		{"outs", func(s string) api.Program { p := full(); p.Nodes[0].Outs = list(s); return p }},
		{"equation", func(s string) api.Program { return item(equation(x, s)) }},
		{"equations", func(s string) api.Program { return item(equation(x, list(s)...)) }},
		{"equation of a state", func(s string) api.Program { p := full(); p.Nodes[1].Items[1].States[0].Eqs[1].Names[0] = s; return p }},
		{"variable", func(s string) api.Program { return with(bin("+", x, v(s))) }},
		{"when", func(s string) api.Program {
			return with(api.Expr{Op: api.When, Name: s, Cons: []string{"A"}, Kids: []api.Expr{x}})
		}},
		{"merge", func(s string) api.Program { return with(arms(api.Merge, s, "A", x)) }},
		{"match", func(s string) api.Program { return with(arms(api.Match, s, "A", x)) }},
		{"call", func(s string) api.Program { return with(call(s, "", x)) }},
		{"static argument", func(s string) api.Program {
			return with(api.Expr{Op: api.Call, Name: "f", Cons: list(s), Kids: []api.Expr{x}})
		}},
		{"call of an every", func(s string) api.Program { return with(of(api.Every, call(s, "", x), x)) }},
	}
}

func spotsOfCons() []spot {
	x := v("x")
	list := func(s string) []string { return []string{"A", s, "B"} }
	return []spot{
		{"enum", func(s string) api.Program { p := full(); p.Enums[1].Cons = list(s); return p }},
		{"state", func(s string) api.Program { p := full(); p.Nodes[1].Items[1].States[1].Name = s; return p }},
		{"transition", func(s string) api.Program { p := full(); p.Nodes[1].Items[1].States[0].Ways[1].To = s; return p }},
		{"constructor", func(s string) api.Program { return with(bin("=", x, con(s))) }},
		{"when", func(s string) api.Program {
			return with(api.Expr{Op: api.When, Name: "c", Cons: []string{s}, Kids: []api.Expr{x}})
		}},
		{"merge", func(s string) api.Program {
			return with(api.Expr{Op: api.Merge, Name: "c", Cons: list(s), Kids: copies(3, x)})
		}},
		{"match", func(s string) api.Program {
			return with(api.Expr{Op: api.Match, Name: "c", Cons: list(s), Kids: copies(3, x)})
		}},
	}
}

func checkSpots(t *testing.T, spots []spot, good, bad []string) {
	for _, at := range spots {
		for _, s := range good {
			checkRight(t, at.what+" "+s, at.p(s), api.OK, api.OK)
		}
		for _, s := range generated(good) {
			checkRight(t, at.what+" "+s, at.p(s), api.ErrField, api.OK)
		}
		for _, s := range bad {
			checkRight(t, at.what+" "+s, at.p(s), api.ErrField, api.ErrField)
		}
	}
}

// P2.1: names and constructors wherever they stand; generated ones are right only if made.
func TestNamesAndConstructors(t *testing.T) {
	checkSpots(t, spotsOfNames(), goodNames, slices.Concat(badWords, goodCons, generated(goodCons)))
	checkSpots(t, spotsOfCons(), goodCons, slices.Concat(badWords, goodNames, generated(goodNames)))
}

// P2.1: how many of each part a program may have. The limits for enums and items are wider if made.
func TestCounts(t *testing.T) {
	const unlimited = 1 << 20
	names := func(n int) []string { return strings.Fields(words(n, "x")) }
	cons := func(n int) []string { return strings.Fields(words(n, "A")) }
	states := func(n int) []api.State { return slices.Repeat([]api.State{{Name: "S"}}, n) }
	eqs := func(n int) []api.Eq { return slices.Repeat([]api.Eq{{Names: []string{"x"}, E: v("x")}}, n) }
	ways := func(n int) []api.Way { return slices.Repeat([]api.Way{{If: v("x"), To: "S"}}, n) }
	for _, c := range []struct {
		what              string
		least, most, made int
		p                 func(n int) api.Program
	}{
		{"enums", 0, 8, 32, func(n int) api.Program { p := full(); p.Enums = slices.Repeat(p.Enums[:1], n); return p }},
		{"cons", 1, 8, 8, func(n int) api.Program { p := full(); p.Enums[1].Cons = cons(n); return p }},
		{"nodes", 1, 16, 16, func(n int) api.Program { p := full(); p.Nodes = slices.Repeat(p.Nodes[1:], n); return p }},
		{"funs", 0, 6, 6, func(n int) api.Program { p := full(); p.Nodes[0].Funs = names(n); return p }},
		{"ins", 1, 6, 6, func(n int) api.Program { p := full(); p.Nodes[1].Ins = names(n); return p }},
		{"outs", 1, 6, 6, func(n int) api.Program { p := full(); p.Nodes[1].Outs = names(n); return p }},
		{"items", 0, 24, unlimited, func(n int) api.Program { return program(slices.Repeat([]api.Item{equation(v("x"), "y")}, n)...) }},
		{"automata", 0, 24, unlimited, func(n int) api.Program { return program(slices.Repeat([]api.Item{{States: states(1)}}, n)...) }},
		{"names", 1, 6, 6, func(n int) api.Program { return program(equation(v("x"), names(n)...)) }},
		{"states", 1, 8, 8, func(n int) api.Program { return program(api.Item{States: states(n)}) }},
		{"equations of a state", 0, 24, 24, func(n int) api.Program { return program(api.Item{States: []api.State{{Name: "S", Eqs: eqs(n)}}}) }},
		{"names in a state", 1, 6, 6, func(n int) api.Program {
			return program(api.Item{States: []api.State{{Name: "S", Eqs: []api.Eq{{Names: names(n), E: v("x")}}}}})
		}},
		{"transitions", 0, 4, 4, func(n int) api.Program { return program(api.Item{States: []api.State{{Name: "S", Ways: ways(n)}}}) }},
	} {
		for n := range 40 {
			want := func(most int) api.Errno {
				if n < c.least || n > most {
					return api.ErrField
				}
				return api.OK
			}
			checkRight(t, c.what+" "+strconv.Itoa(n), c.p(n), want(c.most), want(c.made))
		}
	}
}

// P2.1: an item is either an equation or an automaton.
func TestItems(t *testing.T) {
	states := []api.State{{Name: "S"}}
	checkRight(t, "automaton", program(api.Item{States: states}), api.OK, api.OK)
	checkRight(t, "automaton with empty slices",
		program(api.Item{Eq: api.Eq{Names: []string{}, E: api.Expr{Cons: []string{}, Kids: []api.Expr{}}}, States: states}), api.OK, api.OK)
	for what, i := range map[string]api.Item{
		"nothing":                {},
		"empty States":           {States: []api.State{}},
		"no expression":          equation(api.Expr{}, "y"),
		"no names":               equation(v("x")),
		"automaton with names":   {Eq: api.Eq{Names: []string{"y"}}, States: states},
		"automaton with E":       {Eq: api.Eq{E: v("x")}, States: states},
		"automaton with Op":      {Eq: api.Eq{E: api.Expr{Op: api.If}}, States: states},
		"automaton with Name":    {Eq: api.Eq{E: api.Expr{Name: "x"}}, States: states},
		"automaton with N":       {Eq: api.Eq{E: api.Expr{N: 1}}, States: states},
		"automaton with Cons":    {Eq: api.Eq{E: api.Expr{Cons: []string{""}}}, States: states},
		"automaton with kids":    {Eq: api.Eq{E: api.Expr{Kids: []api.Expr{{}}}}, States: states},
		"both":                   {Eq: api.Eq{Names: []string{"y"}, E: v("x")}, States: states},
		"state without a name":   {States: []api.State{{}}},
		"state without an E":     {States: []api.State{{Name: "S", Eqs: []api.Eq{{Names: []string{"y"}}}}}},
		"transition without If":  {States: []api.State{{Name: "S", Ways: []api.Way{{To: "S"}}}}},
		"transition without To":  {States: []api.State{{Name: "S", Ways: []api.Way{{If: v("x")}}}}},
		"bad last state":         {States: []api.State{{Name: "S"}, {Name: "s"}}},
		"bad second equation":    {States: []api.State{{Name: "S", Eqs: []api.Eq{{Names: []string{"y"}, E: v("x")}, {}}}}},
		"bad transition at last": {States: []api.State{{Name: "S", Ways: []api.Way{{If: v("x"), To: "S"}, {}}}}},
	} {
		checkRight(t, what, program(i), api.ErrField, api.ErrField)
		checkRight(t, what+" behind others", program(equation(v("x"), "y"), api.Item{States: states}, i), api.ErrField, api.ErrField)
	}
}

// P2.1: depths are bounded one by one, in every expression of a program.
func TestDepthBound(t *testing.T) {
	checkExprBound := func(what string, e api.Expr, want api.Errno) {
		t.Helper()
		state := api.State{Name: "S", Eqs: []api.Eq{{Names: []string{"y"}, E: e}}}
		way := api.State{Name: "S", Ways: []api.Way{{If: v("x"), To: "S"}, {If: e, To: "S"}}}
		last := full()
		last.Nodes = append(last.Nodes, with(e).Nodes...)
		checkRight(t, what+", equation", with(e), want, want)
		checkRight(t, what+", state", program(api.Item{States: []api.State{{Name: "R"}, state}}), want, want)
		checkRight(t, what+", transition", program(api.Item{States: []api.State{{Name: "R"}, way}}), want, want)
		checkRight(t, what+", last node", last, want, want)
	}
	checkExprBound("depth 40", deep(40), api.OK)
	checkExprBound("depth 41", deep(41), api.ErrBound)
	checkExprBound("depth 41 in the last kid", of(api.If, v("x"), v("x"), deep(40)), api.ErrBound)
	checkExprBound("depth 40 in the last kid", of(api.If, v("x"), v("x"), deep(39)), api.OK)
	checkRight(t, "depth 40 three times", program(equation(deep(40), "y"), equation(deep(40), "y"), equation(deep(40), "y")), api.OK, api.OK)
}

// P2.1: the sizes of all expressions of one node are bounded together.
func TestSizeBound(t *testing.T) {
	checkRight(t, "299", with(large(299)), api.OK, api.OK)
	checkRight(t, "300", with(un("-", large(299))), api.OK, api.OK)
	checkRight(t, "301", with(large(301)), api.ErrBound, api.ErrBound)
	checkRight(t, "299 and 1", program(equation(large(299), "y"), equation(v("x"), "z")), api.OK, api.OK)
	checkRight(t, "299 and 2", program(equation(large(299), "y"), equation(un("-", v("x")), "z")), api.ErrBound, api.ErrBound)

	eq := func(n int) api.Eq { return api.Eq{Names: []string{"y"}, E: large(n)} }
	way := func(n int) api.Way { return api.Way{If: large(n), To: "S"} }
	sum := func(a, b, c, d, e int) api.Program {
		return program(equation(large(a), "y"), api.Item{States: []api.State{
			{Name: "S", Eqs: []api.Eq{eq(b), eq(c)}}, {Name: "T", Ways: []api.Way{way(d), way(e)}}}}, equation(v("x"), "z"))
	}
	checkRight(t, "a sum of 300", sum(99, 99, 99, 1, 1), api.OK, api.OK)
	checkRight(t, "more in the equation", sum(101, 99, 99, 1, 1), api.ErrBound, api.ErrBound)
	checkRight(t, "more in a state", sum(99, 99, 101, 1, 1), api.ErrBound, api.ErrBound)
	checkRight(t, "more in a transition", sum(99, 99, 99, 3, 1), api.ErrBound, api.ErrBound)
	checkRight(t, "more in another transition", sum(99, 99, 99, 1, 3), api.ErrBound, api.ErrBound)

	two := with(large(299))
	two.Nodes = append(two.Nodes, with(large(299)).Nodes...)
	checkRight(t, "two nodes", two, api.OK, api.OK)
	two.Nodes[1].Items[0].E = large(301)
	checkRight(t, "two nodes, too large the second one", two, api.ErrBound, api.ErrBound)
}

// P2.1: any number of items, if made, as long as their sizes allow it.
func TestManyItems(t *testing.T) {
	items := func(n int) api.Program { return program(slices.Repeat([]api.Item{equation(v("x"), "y")}, n)...) }
	checkRight(t, "300 items", items(300), api.ErrField, api.OK)
	checkRight(t, "301 items", items(301), api.ErrField, api.ErrBound)
	checkRight(t, "1000 automata", program(slices.Repeat([]api.Item{{States: []api.State{{Name: "S"}}}}, 1000)...), api.ErrField, api.OK)
}

// P2.1: what is not well-formed is told ahead of what is too deep or too large, wherever both stand.
func TestOrderOfErrors(t *testing.T) {
	for _, big := range []api.Expr{deep(41), large(301)} {
		p := program(equation(big, "y"), equation(api.Expr{}, "z"))
		checkRight(t, "bound, then field", p, api.ErrField, api.ErrField)
		q := with(big)
		q.Nodes = append(q.Nodes, api.Node{})
		checkRight(t, "bound, then a bad node", q, api.ErrField, api.ErrField)
		r := with(big)
		r.Nodes = append(r.Nodes, with(v("_x")).Nodes...)
		checkRight(t, "bound, then a generated name", r, api.ErrField, api.ErrBound)
		checkRight(t, "a bad kid deep down", with(bin("+", big, num(-1))), api.ErrField, api.ErrField)
	}
}

package parse_test

import (
	"math/rand"
	"reflect"
	"slices"
	"strings"
	"testing"

	"pendule/api"
	"pendule/parse"
	"pendule/scan"
	"pendule/tree"
)

// maker draws well-formed trees and their texts.
type maker struct{ *rand.Rand }

func (m maker) pick(l ...string) string { return l[m.Intn(len(l))] }

func (m maker) name() string { return m.pick("a", "b", "c1", "fbyx", "x23456789012345678901234") }

func (m maker) con() string { return m.pick("A", "B", "True", "F_") }

func (m maker) list(least, most int, one func() string) []string {
	var l []string
	for range least + m.Intn(most-least+1) {
		l = append(l, one())
	}
	return l
}

// exprs returns n expressions, each of at most the depth given.
func (m maker) exprs(n, depth int) []api.Expr {
	var l []api.Expr
	for range n {
		l = append(l, m.expr(depth))
	}
	return l
}

func (m maker) expr(depth int) api.Expr {
	op := api.Int + m.Intn(api.Every)
	if depth <= 1 {
		op = api.Int + m.Intn(api.Var)
	}
	if depth == 2 && op == api.Every {
		op = api.Call
	}
	switch op {
	case api.Int:
		return num([]int64{0, 1, 12, 1<<63 - 1}[m.Intn(4)])
	case api.Bool:
		return boolean(int64(m.Intn(2)))
	case api.Con:
		return con(m.con())
	case api.Var:
		return v(m.name())
	case api.Un:
		return un(m.pick("not", "-"), m.expr(depth-1))
	case api.Bin:
		return bin(m.expr(depth-1), m.pick("+", "-", "*", "/", "%", "<", "<=", "=", "<>", "and", "or"), m.expr(depth-1))
	case api.If:
		return of(op, m.exprs(3, depth-1)...)
	case api.Fby, api.Arrow:
		return of(op, m.exprs(2, depth-1)...)
	case api.Pre:
		return of(op, m.expr(depth-1))
	case api.When:
		return when(m.expr(depth-1), m.con(), m.name())
	case api.Merge, api.Match:
		l := m.list(1, 3, m.con)
		return api.Expr{Op: op, Name: m.name(), Cons: l, Kids: m.exprs(len(l), depth-1)}
	case api.Call:
		return m.call(depth)
	}
	return of(api.Every, m.call(depth-1), m.expr(depth-1))
}

func (m maker) call(depth int) api.Expr {
	return api.Expr{Op: api.Call, Name: m.name(), Cons: m.list(0, 2, m.name), Kids: m.exprs(1+m.Intn(3), depth-1)}
}

func (m maker) eqs(n int) []api.Eq {
	var l []api.Eq
	for range n {
		l = append(l, api.Eq{Names: m.list(1, 3, m.name), E: m.expr(3)})
	}
	return l
}

func (m maker) item() api.Item {
	if m.Intn(3) > 0 {
		return api.Item{Eq: m.eqs(1)[0]}
	}
	var i api.Item
	for range 1 + m.Intn(3) {
		s := api.State{Name: m.con(), Eqs: m.eqs(m.Intn(3))}
		for range m.Intn(3) {
			s.Ways = append(s.Ways, api.Way{If: m.expr(2), To: m.con()})
		}
		i.States = append(i.States, s)
	}
	return i
}

func (m maker) program() api.Program {
	var p api.Program
	for range m.Intn(3) {
		p.Enums = append(p.Enums, api.Enum{Name: m.name(), Cons: m.list(1, 3, m.con)})
	}
	for range 1 + m.Intn(2) {
		n := api.Node{Name: m.name(), Funs: m.list(0, 2, m.name), Ins: m.list(1, 3, m.name), Outs: m.list(1, 3, m.name)}
		for range m.Intn(3) {
			n.Items = append(n.Items, m.item())
		}
		p.Nodes = append(p.Nodes, n)
	}
	return p
}

func mustPrint(t *testing.T, p api.Program) string {
	t.Helper()
	s, err := tree.Print(p)
	if err != api.OK {
		t.Fatalf("error %d of %v", err, p)
	}
	return s
}

// P3.2: what layer 2 prints for a well-formed program is parsed as that program.
func TestPrintedPrograms(t *testing.T) {
	m := maker{rand.New(rand.NewSource(1))}
	programs := []api.Program{fullProgram()}
	for range 3000 {
		programs = append(programs, m.program())
	}
	for _, p := range programs {
		checkProgram(t, mustPrint(t, p), p)
	}
}

// P3.2: expressions as deep as a program may have them do not open too many unaries.
func TestPrintedDepths(t *testing.T) {
	x := v("x")
	for i, grow := range []func(e api.Expr) api.Expr{
		func(e api.Expr) api.Expr { return un("not", e) },
		func(e api.Expr) api.Expr { return un("-", e) },
		func(e api.Expr) api.Expr { return of(api.Pre, e) },
		func(e api.Expr) api.Expr { return bin(x, "<", e) },
		func(e api.Expr) api.Expr { return bin(e, "-", x) },
		func(e api.Expr) api.Expr { return of(api.If, e, x, x) },
		func(e api.Expr) api.Expr { return of(api.If, x, e, x) },
		func(e api.Expr) api.Expr { return of(api.If, x, x, e) },
		func(e api.Expr) api.Expr { return of(api.Fby, e, x) },
		func(e api.Expr) api.Expr { return of(api.Fby, x, e) },
		func(e api.Expr) api.Expr { return of(api.Arrow, e, x) },
		func(e api.Expr) api.Expr { return when(e, "A", "c") },
		func(e api.Expr) api.Expr { return arms(api.Merge, "c", "A B", x, e) },
		func(e api.Expr) api.Expr { return arms(api.Match, "c", "A B", e, x) },
		func(e api.Expr) api.Expr { return call("f", "g", x, e) },
		func(e api.Expr) api.Expr { return of(api.Every, call("f", "", x), e) },
		func(e api.Expr) api.Expr { return un("-", of(api.Every, call("f", "", x), e)) },
	} {
		e := x
		for tree.Depth(grow(e)) <= api.MaxDepth {
			e = grow(e)
		}
		p := programOf(equation(e, "y"))
		if d := tree.Depth(e); d < api.MaxDepth-1 {
			t.Errorf("%d: a tree of depth %d", i, d)
		}
		checkProgram(t, mustPrint(t, p), p)
	}
}

// level is the rule of the grammar that has e without parentheses: 1 is expr, 8 is unary; 9 is a call with every, and what has when behind it; 10 is an atom.
func level(e api.Expr) int {
	switch e.Op {
	case api.Arrow:
		return 1
	case api.Fby:
		return 2
	case api.Bin:
		for i, row := range strengths {
			if slices.Contains(strings.Fields(row.operators), e.Name) {
				return i + 1
			}
		}
	case api.Un, api.Pre, api.If:
		return 8
	case api.When, api.Every:
		return 9
	}
	return 10
}

// writer writes expressions with no more parentheses than they need, and with as many more as it draws.
type writer struct {
	maker
	spare bool // whether it draws any
}

// expr returns the text of e where the rule least stands. At an edge, something may follow that the end of e would take.
func (w writer) expr(e api.Expr, least int, edge bool) string {
	if w.spare && w.Intn(3) == 0 {
		return "( " + w.expr(e, 1, false) + " )"
	}
	if level(e) < least || edge && e.Op == api.If {
		return "( " + w.bare(e, false) + " )"
	}
	return w.bare(e, edge)
}

func (w writer) bare(e api.Expr, edge bool) string {
	k := e.Kids
	in := func(i int) string { return w.expr(k[i], 1, false) }
	switch e.Op {
	case api.Arrow:
		return w.expr(k[0], 2, true) + " -> " + w.expr(k[1], 1, edge)
	case api.Fby:
		return w.expr(k[0], 3, true) + " fby " + w.expr(k[1], 2, edge)
	case api.Bin:
		left := level(e)
		if strengths[left-1].group == "none" {
			left++
		}
		return w.expr(k[0], left, true) + " " + e.Name + " " + w.expr(k[1], level(e)+1, edge)
	case api.Un:
		return e.Name + " " + w.expr(k[0], 8, edge)
	case api.Pre:
		return "pre " + w.expr(k[0], 8, edge)
	case api.If:
		return "if " + in(0) + " then " + in(1) + " else " + w.expr(k[2], 1, edge)
	case api.When:
		least := 9
		if k[0].Op == api.Every {
			least = 10
		}
		return w.expr(k[0], least, true) + " when " + e.Cons[0] + " ( " + e.Name + " )"
	case api.Every:
		return w.expr(k[0], 10, true) + " every " + w.expr(k[1], 8, edge)
	case api.Merge, api.Match:
		var l []string
		for i, c := range e.Cons {
			l = append(l, c+" -> "+in(i))
		}
		return map[int]string{api.Merge: "merge ", api.Match: "match "}[e.Op] + e.Name + " ( " + strings.Join(l, " | ") + " )"
	case api.Call:
		var l []string
		for i := range k {
			l = append(l, in(i))
		}
		return e.Name + statics(e.Cons) + " ( " + strings.Join(l, " , ") + " )"
	}
	return tree.Show(e)
}

func statics(l []string) string {
	if len(l) == 0 {
		return ""
	}
	return " [ " + strings.Join(l, " , ") + " ]"
}

// P3.1, P3.3: an expression has its tree with as few parentheses as it needs, and with more around any part of it.
func TestParentheses(t *testing.T) {
	m := maker{rand.New(rand.NewSource(2))}
	for range 20000 {
		e := m.expr(1 + m.Intn(5))
		checkExpr(t, writer{m, false}.expr(e, 1, false), e)
		checkExpr(t, writer{m, true}.expr(e, 1, false), e)
	}
}

// gaps are what may stand between any two tokens.
var gaps = []string{" ", "\n", "\t", "\r\n", "  \n ", " -- 03 @ é\n", "\n--\n-- fby (\n", " ---\n\t"}

// spread returns text with other gaps between its tokens, and none where none is needed.
func (m maker) spread(text string) string {
	l, _ := scan.Scan(text)
	var b strings.Builder
	for i, t := range l {
		needed := i > 0 && (t.Sort != api.TSign || t.Text == "-" || l[i-1].Sort == api.TSign)
		if needed || m.Intn(3) == 0 {
			b.WriteString(gaps[m.Intn(len(gaps))])
		}
		b.WriteString(t.Text)
	}
	return b.String()
}

// P3.3: white space and comments do not change a program, nor which token is its fault.
func TestSpaces(t *testing.T) {
	m := maker{rand.New(rand.NewSource(3))}
	for range 2000 {
		p := m.program()
		s := mustPrint(t, p)
		checkProgram(t, m.spread(s), p)
		bad := m.mutant(s)
		other := m.spread(bad)
		_, f := parse.Parse(bad)
		_, g := parse.Parse(other)
		if f.Err != g.Err || index(bad, f) != index(other, g) {
			t.Fatalf("%q has the fault %v, %q %v", bad, f, other, g)
		}
	}
}

// index returns which token of text is at a fault.
func index(text string, f api.Fault) int {
	l, _ := scan.Scan(text)
	return slices.IndexFunc(l, func(t api.Token) bool { return t.Line == f.A && t.Col == f.B })
}

// mutant returns text with one to three tokens left out, doubled, exchanged or replaced.
func (m maker) mutant(text string) string {
	l := strings.Fields(text)
	for range 1 + m.Intn(3) {
		if len(l) < 2 {
			break
		}
		i, j := m.Intn(len(l)), m.Intn(len(l))
		switch m.Intn(5) {
		case 0:
			l = slices.Delete(l, i, i+1)
		case 1:
			l = slices.Insert(l, i, l[j])
		case 2:
			l[i], l[j] = l[j], l[i]
		case 3:
			l[i] = m.token()
		case 4:
			l = slices.Insert(l, i, m.token())
		}
	}
	return strings.Join(l, " ")
}

func (m maker) token() string {
	return m.pick(strings.Fields("x A 1 type node where end automaton state until then if else fby pre not and or when merge match every true false " +
		"-> <= <> ( ) [ ] < = , ; : | + - * / % every every ( )")...)
}

// checkByGrammar holds the faults of text against those that the recognizer finds.
func checkByGrammar(t *testing.T, g *recognizer, text string) {
	t.Helper()
	checkExprFault(t, text, g.want("<expr>", text))
	_, f := parse.Parse(text)
	want := g.want("<program>", text)
	if want == (api.Fault{}) && f.A == 0 && f.B == 0 && (f.Err == api.ErrField || f.Err == api.ErrBound) {
		return // of the tree
	}
	checkFault(t, text, want)
}

// P3.1: of texts that are nearly right, the faults are those of the grammar.
func TestMutants(t *testing.T) {
	m := maker{rand.New(rand.NewSource(4))}
	g := newRecognizer()
	for range 400 {
		s := mustPrint(t, m.program())
		if len(s) > 600 { // the recognizer is slow
			continue
		}
		checkByGrammar(t, g, s)
		checkByGrammar(t, g, m.mutant(s))
	}
	for range 1500 {
		s := writer{m, m.Intn(2) == 0}.expr(m.expr(1+m.Intn(4)), 1, false)
		if len(s) > 300 {
			continue
		}
		checkByGrammar(t, g, s)
		checkByGrammar(t, g, m.mutant(s))
		checkByGrammar(t, g, m.mutant(m.mutant(s)))
	}
}

// P3.1: as above, of every short row of tokens that can stand in an expression.
func TestShortRows(t *testing.T) {
	g := newRecognizer()
	tokens := strings.Fields("x A 1 ( ) [ ] , -> < - fby not every when merge if then else |")
	rows := []string{""}
	for range 3 {
		var longer []string
		for _, s := range rows {
			for _, w := range tokens {
				longer = append(longer, strings.TrimSpace(s+" "+w))
			}
		}
		for _, s := range longer {
			checkExprFault(t, s, g.want("<expr>", s))
		}
		rows = longer
	}
}

// W0: texts of any bytes have a result.
func TestNoise(t *testing.T) {
	m := maker{rand.New(rand.NewSource(5))}
	const bytes = "aby_XZ019<>=-->()[],;:|+*/% \t\n--@\x00\xc3\xa9"
	for range 20000 {
		b := make([]byte, m.Intn(12))
		for i := range b {
			b[i] = bytes[m.Intn(len(bytes))]
		}
		s := string(b)
		_, want := scan.Scan(s)
		_, f := parse.Expr(s)
		if want.Err != api.OK && f != want || want.Err == api.OK && f.Err != api.OK && f.Err != api.ErrSyntax {
			t.Fatalf("Expr(%q): fault %v, of its tokens %v", s, f, want)
		}
		if _, g := parse.Parse(s); want.Err != api.OK && g != want {
			t.Fatalf("Parse(%q): fault %v, of its tokens %v", s, g, want)
		}
	}
}

// lists returns where each list in x has its memory.
func lists(x reflect.Value) [][2]uintptr {
	var l [][2]uintptr
	switch x.Kind() {
	case reflect.Struct:
		for i := range x.NumField() {
			l = append(l, lists(x.Field(i))...)
		}
	case reflect.Slice:
		if x.Cap() > 0 {
			l = append(l, [2]uintptr{x.Pointer(), x.Pointer() + uintptr(x.Cap())*x.Type().Elem().Size()})
		}
		for i := range x.Len() {
			l = append(l, lists(x.Index(i))...)
		}
	}
	return l
}

// R4: the lists of results are new memory, which no two of them share.
func TestListsAreNew(t *testing.T) {
	first, _ := parse.Parse(full)
	again, _ := parse.Parse(full)
	e, _ := parse.Expr("f[g, h](x, merge c (A -> x when A(c) | B -> -1)) every x")
	l := slices.Concat(lists(reflect.ValueOf(first)), lists(reflect.ValueOf(again)), lists(reflect.ValueOf(e)))
	slices.SortFunc(l, func(a, b [2]uintptr) int { return slices.Compare(a[:], b[:]) })
	for i := range len(l) - 1 {
		if l[i][1] > l[i+1][0] {
			t.Errorf("two of %d lists share memory", len(l))
		}
	}
}

package tree_test

import (
	"math/rand"
	"slices"
	"strings"
	"testing"

	"pendule/api"
	"pendule/scan"
	"pendule/tree"
)

// maker draws well-formed trees from a small vocabulary, so that equal parts are frequent.
type maker struct{ *rand.Rand }

func (m maker) pick(l ...string) string { return l[m.Intn(len(l))] }

func (m maker) name() string { return m.pick("a", "b", "c1", "fbyx") }

func (m maker) con() string { return m.pick("A", "B", "True", "F_") }

func (m maker) list(least, most int, one func() string) []string {
	var l []string
	for range least + m.Intn(most-least+1) {
		l = append(l, one())
	}
	return l
}

// exprs returns n expressions, each of at most the depth given.
func (m maker) exprs(n, depth int) []api.Expr {
	var l []api.Expr
	for range n {
		l = append(l, m.expr(depth))
	}
	return l
}

func (m maker) expr(depth int) api.Expr {
	op := api.Int + m.Intn(api.Every)
	if depth <= 1 {
		op = api.Int + m.Intn(api.Var)
	}
	if depth == 2 && op == api.Every {
		op = api.Call
	}
	switch op {
	case api.Int:
		return num([]int64{0, 1, 12, 1<<63 - 1}[m.Intn(4)])
	case api.Bool:
		return boolean(int64(m.Intn(2)))
	case api.Con:
		return con(m.con())
	case api.Var:
		return v(m.name())
	case api.Un:
		return un(m.pick("not", "-"), m.expr(depth-1))
	case api.Bin:
		return bin(m.pick("+", "-", "*", "/", "%", "<", "<=", "=", "<>", "and", "or"), m.exprs(2, depth-1)...)
	case api.If:
		return of(op, m.exprs(3, depth-1)...)
	case api.Fby, api.Arrow:
		return of(op, m.exprs(2, depth-1)...)
	case api.Pre:
		return of(op, m.expr(depth-1))
	case api.When:
		return when(m.con(), m.name(), m.expr(depth-1))
	case api.Merge, api.Match:
		l := m.list(1, 3, m.con)
		return api.Expr{Op: op, Name: m.name(), Cons: l, Kids: m.exprs(len(l), depth-1)}
	case api.Call:
		return m.call(depth)
	}
	return of(api.Every, m.call(depth-1), m.expr(depth-1))
}

func (m maker) call(depth int) api.Expr {
	return api.Expr{Op: api.Call, Name: m.name(), Cons: m.list(0, 2, m.name), Kids: m.exprs(1+m.Intn(3), depth-1)}
}

func (m maker) eq() api.Eq { return api.Eq{Names: m.list(1, 3, m.name), E: m.expr(3)} }

func (m maker) item() api.Item {
	if m.Intn(3) > 0 {
		return api.Item{Eq: m.eq()}
	}
	var i api.Item
	for range 1 + m.Intn(3) {
		s := api.State{Name: m.con()}
		for range m.Intn(3) {
			s.Eqs = append(s.Eqs, m.eq())
		}
		for range m.Intn(3) {
			s.Ways = append(s.Ways, api.Way{If: m.expr(2), To: m.con()})
		}
		i.States = append(i.States, s)
	}
	return i
}

func (m maker) program() api.Program {
	var p api.Program
	for range m.Intn(3) {
		p.Enums = append(p.Enums, api.Enum{Name: m.name(), Cons: m.list(1, 3, m.con)})
	}
	for range 1 + m.Intn(3) {
		n := api.Node{Name: m.name(), Funs: m.list(0, 2, m.name), Ins: m.list(1, 3, m.name), Outs: m.list(1, 3, m.name)}
		for range m.Intn(4) {
			n.Items = append(n.Items, m.item())
		}
		p.Nodes = append(p.Nodes, n)
	}
	return p
}

func mustPrint(t *testing.T, p api.Program) string {
	t.Helper()
	s, err := tree.Print(p)
	if err != api.OK {
		t.Fatalf("error %d of %v", err, p)
	}
	return s
}

// checkScans holds a text against its tokens: with one space between any two of them, they are the text.
func checkScans(t *testing.T, text string) {
	t.Helper()
	l, f := scan.Scan(text)
	if f.Err != api.OK {
		t.Fatalf("%q cannot be scanned: %v", text, f)
	}
	if got := scan.Spell(l[:len(l)-1]); got != text {
		t.Fatalf("the tokens of %q are spelt %q", text, got)
	}
}

// P2.2: the texts of well-formed programs are scanned, and are those of one program each.
func TestTextsDiffer(t *testing.T) {
	m := maker{rand.New(rand.NewSource(1))}
	texts := map[string]api.Program{}
	for range 4000 {
		p := m.program()
		s := mustPrint(t, p)
		checkScans(t, s)
		if q, ok := texts[s]; ok && !tree.Same(p, q) {
			t.Fatalf("%v and %v have the text %q", p, q, s)
		}
		texts[s] = p
	}
}

// P2.2: programs that differ in one place only have different texts, if both are well-formed.
func TestTextsOfVariantsDiffer(t *testing.T) {
	m := maker{rand.New(rand.NewSource(2))}
	l := []api.Program{full()}
	for range 40 {
		l = append(l, m.program())
	}
	compared := 0
	for _, p := range l {
		s := mustPrint(t, p)
		for where, q := range variants(p) {
			other, err := tree.Print(q)
			if err != api.OK {
				continue
			}
			compared++
			checkScans(t, other)
			if other == s {
				t.Fatalf("%q is also the text of what differs at %s", s, where)
			}
		}
	}
	if compared < 1000 {
		t.Errorf("%d variants were compared only", compared)
	}
}

// P2.2: expressions of a small depth over few names have different texts.
func TestTextsOfSmallExpressionsDiffer(t *testing.T) {
	leaves := []api.Expr{num(0), num(1), boolean(0), boolean(1), con("A"), con("B"), v("x"), v("y")}
	second := above(leaves, leaves)
	third := above(second, leaves[4:7])
	texts := map[string]api.Expr{}
	for _, e := range slices.Concat(leaves, second, third) {
		checkErr(t, tree.Show(e), tree.Right(with(e), false), api.OK)
		s := tree.Show(e)
		if d, ok := texts[s]; ok && !tree.SameExpr(d, e) {
			t.Fatalf("%v and %v have the text %q", d, e, s)
		}
		texts[s] = e
	}
	if len(texts) < 20000 {
		t.Errorf("%d expressions only", len(texts))
	}
}

// above returns expressions whose first kid is one of a, and whose second one, if there is one, is one of b.
func above(a, b []api.Expr) []api.Expr {
	var l []api.Expr
	for _, x := range a {
		l = append(l, un("-", x), un("not", x), of(api.Pre, x), when("A", "x", x), when("B", "x", x), when("A", "y", x),
			arms(api.Merge, "x", "A", x), arms(api.Match, "x", "A", x), call("f", "", x), call("f", "g", x), call("g", "f", x))
		for _, y := range b {
			l = append(l, bin("-", x, y), bin("<", x, y), bin("<=", x, y), of(api.Fby, x, y), of(api.Arrow, x, y),
				of(api.If, x, y, num(0)), arms(api.Merge, "x", "A B", x, y), call("f", "", x, y), call("f", "g x", x, y),
				of(api.Every, call("f", "", x), y))
		}
	}
	return l
}

// P2.2: the greatest names and numbers still make tokens.
func TestGreatestTokensScan(t *testing.T) {
	p := full()
	p.Enums[0].Cons[0] = "A" + long
	p.Nodes[0].Name = "n" + long
	p.Nodes[1].Items = append(p.Nodes[1].Items, equation(bin("+", num(1<<63-1), v("a"+long)), "b"+long))
	s := mustPrint(t, p)
	checkScans(t, s)
	if n := strings.Count(s, long); n != 4 {
		t.Errorf("%q has %d of the 4 long names", s, n)
	}
}

package tree

import (
	"strings"

	"pendule/api"
)

// Print returns the text of p, or the error of Right(p, false).
func Print(p api.Program) (string, api.Errno) {
	if err := Right(p, false); err != api.OK {
		return "", err
	}
	var t text
	for _, e := range p.Enums {
		t.enum(e)
	}
	for _, n := range p.Nodes {
		t.node(n)
	}
	return t.b.String(), api.OK
}

// Show returns the text of e, well-formed or not.
func Show(e api.Expr) string {
	var t text
	t.expr(e)
	return t.b.String()
}

// text is a sequence of tokens with one space between any two of them. Its first token may be the empty Name of an expression that is not well-formed, so that its length does not tell whether there is one.
type text struct {
	b     strings.Builder
	begun bool
}

func (t *text) put(tokens ...string) {
	for _, s := range tokens {
		if t.begun {
			t.b.WriteByte(' ')
		}
		t.begun = true
		t.b.WriteString(s)
	}
}

// names puts the elements of l with sep between any two.
func (t *text) names(l []string, sep string) {
	for i, s := range l {
		if i > 0 {
			t.put(sep)
		}
		t.put(s)
	}
}

func (t *text) enum(e api.Enum) {
	t.put("type", e.Name, "=")
	t.names(e.Cons, "|")
	t.put(";")
}

func (t *text) node(n api.Node) {
	t.put("node", n.Name)
	t.statics(n.Funs)
	t.put("(")
	t.names(n.Ins, ",")
	t.put(")", "=", "(")
	t.names(n.Outs, ",")
	t.put(")", "where")
	for _, i := range n.Items {
		t.item(i)
	}
	t.put("end")
}

// statics puts static parameters or arguments: nothing if there are none.
func (t *text) statics(l []string) {
	if len(l) == 0 {
		return
	}
	t.put("[")
	t.names(l, ",")
	t.put("]")
}

func (t *text) item(i api.Item) {
	if len(i.States) == 0 {
		t.equation(i.Eq)
		return
	}
	t.put("automaton")
	for _, s := range i.States {
		t.state(s)
	}
	t.put("end", ";")
}

func (t *text) state(s api.State) {
	t.put("state", s.Name, ":")
	for _, q := range s.Eqs {
		t.equation(q)
	}
	for _, w := range s.Ways {
		t.put("until")
		t.expr(w.If)
		t.put("then", w.To, ";")
	}
}

func (t *text) equation(q api.Eq) {
	if len(q.Names) == 1 {
		t.put(q.Names[0])
	} else {
		t.put("(")
		t.names(q.Names, ",")
		t.put(")")
	}
	t.put("=")
	t.expr(q.E)
	t.put(";")
}

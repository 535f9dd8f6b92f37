package tree

import (
	"strconv"

	"pendule/api"
)

// missing stands for a kid that is not there, and for an expression whose Op has no row in the table.
const missing = "?"

func (t *text) expr(e api.Expr) {
	switch e.Op {
	case api.Int:
		t.put(strconv.FormatInt(e.N, 10))
	case api.Bool:
		t.put(strconv.FormatBool(e.N == 1))
	case api.Con, api.Var:
		t.put(e.Name)
	case api.Un:
		t.prefix(e.Name, e)
	case api.Bin:
		t.infix(e.Name, e)
	case api.If:
		t.choice(e)
	case api.Fby:
		t.infix("fby", e)
	case api.Pre:
		t.prefix("pre", e)
	case api.Arrow:
		t.infix("->", e)
	case api.When:
		t.when(e)
	case api.Merge:
		t.arms("merge", e)
	case api.Match:
		t.arms("match", e)
	case api.Call:
		t.call(e)
	case api.Every:
		t.infix("every", e)
	default:
		t.put(missing)
	}
}

// kid puts the kid of e with the index i.
func (t *text) kid(e api.Expr, i int) {
	if i < len(e.Kids) {
		t.expr(e.Kids[i])
	} else {
		t.put(missing)
	}
}

func (t *text) prefix(operator string, e api.Expr) {
	t.put("(", operator)
	t.kid(e, 0)
	t.put(")")
}

func (t *text) infix(operator string, e api.Expr) {
	t.put("(")
	t.kid(e, 0)
	t.put(operator)
	t.kid(e, 1)
	t.put(")")
}

func (t *text) choice(e api.Expr) {
	t.put("(", "if")
	t.kid(e, 0)
	t.put("then")
	t.kid(e, 1)
	t.put("else")
	t.kid(e, 2)
	t.put(")")
}

func (t *text) when(e api.Expr) {
	t.put("(")
	t.kid(e, 0)
	t.put("when")
	t.names(e.Cons, ",")
	t.put("(", e.Name, ")", ")")
}

func (t *text) arms(word string, e api.Expr) {
	t.put(word, e.Name, "(")
	for i := range min(len(e.Cons), len(e.Kids)) {
		if i > 0 {
			t.put("|")
		}
		t.put(e.Cons[i], "->")
		t.expr(e.Kids[i])
	}
	t.put(")")
}

func (t *text) call(e api.Expr) {
	t.put(e.Name)
	t.statics(e.Cons)
	t.put("(")
	for i, k := range e.Kids {
		if i > 0 {
			t.put(",")
		}
		t.expr(k)
	}
	t.put(")")
}

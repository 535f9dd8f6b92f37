package sugar_test

import (
	"encoding/json"
	"reflect"
	"slices"
	"strconv"
	"strings"
	"testing"

	"pendule/api"
	"pendule/parse"
	"pendule/scope"
	"pendule/sugar"
	"pendule/tree"
)

// program returns the program of a text, which must be well-formed.
func program(t *testing.T, text string) api.Program {
	t.Helper()
	p, f := parse.Parse(text)
	if f != (api.Fault{}) {
		t.Fatalf("Parse(%q): fault %v", text, f)
	}
	return p
}

// expr returns the expression of a text.
func expr(t *testing.T, text string) api.Expr {
	t.Helper()
	e, f := parse.Expr(text)
	if f != (api.Fault{}) {
		t.Fatalf("Expr(%q): fault %v", text, f)
	}
	return e
}

// spaced returns s with one space between any two words.
func spaced(s string) string { return strings.Join(strings.Fields(s), " ") }

// textOf returns the text of p by layer 2, which prints no generated names itself. An automaton is just named: there must be none.
func textOf(p api.Program) string {
	var l []string
	for _, e := range p.Enums {
		l = append(l, "type", e.Name, "=", strings.Join(e.Cons, " | "), ";")
	}
	for _, n := range p.Nodes {
		l = append(l, "node", n.Name)
		if len(n.Funs) > 0 {
			l = append(l, "[", strings.Join(n.Funs, " , "), "]")
		}
		l = append(l, "(", strings.Join(n.Ins, " , "), ") = (", strings.Join(n.Outs, " , "), ") where")
		for _, i := range n.Items {
			l = append(l, itemText(i))
		}
		l = append(l, "end")
	}
	return spaced(strings.Join(l, " "))
}

func itemText(i api.Item) string {
	left := strings.Join(i.Names, " , ")
	if len(i.Names) != 1 {
		left = "( " + left + " )"
	}
	if len(i.States) > 0 {
		left = "automaton " + left
	}
	return left + " = " + tree.Show(i.E) + " ;"
}

// What the tests of items have around them: two types, nodes to call, and the head of the node with the items.
const (
	types = "type colour = Red | Green | Blue ; type one = One ; "
	nodes = "node inc ( a ) = ( b ) where b = ( a + 1 ) ; end " +
		"node two ( a , b ) = ( c , d ) where c = a ; d = b ; end " +
		"node twice [ g ] ( a ) = ( b ) where b = g ( g ( a ) ) ; end "
	head = "node f [ g , h ] ( x , c ) = ( y ) where "
)

// inNode returns the text of a program whose last node has these items.
func inNode(items string) string { return types + nodes + head + items + " end" }

// checkPlain holds the translation of a text, by the enums that it gains and the items that the last node then has, against the texts of these.
func checkPlain(t *testing.T, items, enums, want string) {
	t.Helper()
	p := program(t, inNode(items))
	checkTranslation(t, p, types+enums+" "+nodes+head+want+" end")
}

// checkTranslation holds the translation of p against its text, and against the promises.
func checkTranslation(t *testing.T, p api.Program, want string) {
	t.Helper()
	before := clone(p)
	q, f := sugar.Plain(p)
	if got := textOf(q); f != (api.Fault{}) || got != spaced(want) {
		t.Errorf("Plain(%v) is, with the fault %v,\n%s, want\n%s", before, f, got, spaced(want))
		return
	}
	if !tree.Same(p, before) {
		t.Errorf("%v is changed", before)
	}
	checkPromises(t, p, q)
}

// checkFault holds the fault of p against want, and the promises if there is none.
func checkFault(t *testing.T, p api.Program, want api.Fault) {
	t.Helper()
	q, f := sugar.Plain(p)
	switch {
	case f != want:
		t.Errorf("Plain(%.300s): fault %v, want %v", textOf(p), f, want)
	case want == (api.Fault{}):
		checkPromises(t, p, q)
	case !tree.Same(q, api.Program{}):
		t.Errorf("Plain(%.300s) has the fault %v and a program", textOf(p), f)
	}
}

// checkPromises holds q, the translation of p, against P6.2 and P6.3.
func checkPromises(t *testing.T, p, q api.Program) {
	t.Helper()
	if f := scope.Check(q, true); f != (api.Fault{}) {
		t.Fatalf("the translation of %v has the fault %v", p, f)
	}
	if hasSugar(q) || !hasSugar(p) && !tree.Same(p, q) {
		t.Fatalf("%v is translated into %v, which is not plain, or plain as %v was", p, q, p)
	}
	if len(p.Nodes) != len(q.Nodes) || len(p.Enums) > len(q.Enums) ||
		!tree.Same(api.Program{Enums: p.Enums}, api.Program{Enums: q.Enums[:len(p.Enums)]}) {
		t.Fatalf("%v has lost something in %v, or gained a node", p, q)
	}
	automata := 0
	for k, n := range p.Nodes {
		m := q.Nodes[k]
		if n.Name != m.Name || !slices.Equal(n.Funs, m.Funs) || !slices.Equal(n.Ins, m.Ins) || !slices.Equal(n.Outs, m.Outs) {
			t.Fatalf("the head of node %d of %v is not kept", k, p)
		}
		if got, want := scope.Vars(m), wantedVars(n, &automata); !slices.Equal(got, want) {
			t.Fatalf("the variables of node %d of %v are %v, want %v", k, p, got, want)
		}
	}
	if len(q.Enums) != len(p.Enums)+automata {
		t.Fatalf("%d automata of %v have given %d enums", automata, p, len(q.Enums)-len(p.Enums))
	}
}

// wantedVars returns the variables of a node and those that its automata gain; automata counts these on.
func wantedVars(n api.Node, automata *int) []string {
	l := slices.Clone(n.Ins)
	for b, i := range n.Items {
		own := scope.Vars(api.Node{Items: n.Items[b : b+1]})
		if len(i.States) > 0 {
			number := strconv.Itoa(*automata)
			own = slices.Concat([]string{"_s" + number}, own, []string{"_n" + number})
			*automata++
		}
		l = append(l, own...)
	}
	return l
}

// hasSugar reports whether there is an automaton or a match in p.
func hasSugar(p api.Program) bool {
	for _, n := range p.Nodes {
		for _, i := range n.Items {
			if len(i.States) > 0 || has(i.E, api.Match) {
				return true
			}
		}
	}
	return false
}

// has reports whether there is an expression with this Op in e.
func has(e api.Expr, op int) bool {
	return e.Op == op || slices.ContainsFunc(e.Kids, func(k api.Expr) bool { return has(k, op) })
}

// clone returns a copy of x that shares no memory with it.
func clone[T any](x T) T { return converted[T](x) }

// converted returns x as a value of another type that has the same fields.
func converted[T any](x any) T {
	text, err := json.Marshal(x)
	var c T
	if err == nil {
		err = json.Unmarshal(text, &c)
	}
	if err != nil {
		panic(err)
	}
	return c
}

// checkApart holds the lists in result, none of which may share memory with another one or with a list in arg.
func checkApart(t *testing.T, arg, result any) {
	t.Helper()
	seen := map[uintptr]bool{}
	for _, at := range lists(reflect.ValueOf(arg)) {
		seen[at] = true
	}
	for _, at := range lists(reflect.ValueOf(result)) {
		if seen[at] {
			t.Fatalf("the result %v shares memory with %v, or with itself", result, arg)
		}
		seen[at] = true
	}
}

// lists returns where the lists in x begin that are not empty.
func lists(x reflect.Value) []uintptr {
	var l []uintptr
	switch x.Kind() {
	case reflect.Struct:
		for i := range x.NumField() {
			l = append(l, lists(x.Field(i))...)
		}
	case reflect.Slice:
		if x.Len() > 0 {
			l = append(l, x.Pointer())
		}
		for i := range x.Len() {
			l = append(l, lists(x.Index(i))...)
		}
	}
	return l
}

package tree_test

import (
	"encoding/json"
	"reflect"
	"strconv"
	"strings"
	"testing"

	"pendule/api"
)

func num(n int64) api.Expr { return api.Expr{Op: api.Int, N: n} }

func boolean(n int64) api.Expr { return api.Expr{Op: api.Bool, N: n} }

func con(s string) api.Expr { return api.Expr{Op: api.Con, Name: s} }

func v(s string) api.Expr { return api.Expr{Op: api.Var, Name: s} }

func un(s string, l ...api.Expr) api.Expr { return api.Expr{Op: api.Un, Name: s, Kids: l} }

func bin(s string, l ...api.Expr) api.Expr { return api.Expr{Op: api.Bin, Name: s, Kids: l} }

// of returns an expression that has nothing but kids.
func of(op int, l ...api.Expr) api.Expr { return api.Expr{Op: op, Kids: l} }

func when(c, x string, l ...api.Expr) api.Expr {
	return api.Expr{Op: api.When, Name: x, Cons: strings.Fields(c), Kids: l}
}

// arms returns a Merge or a Match by x; cons are its constructors, with spaces between them.
func arms(op int, x, cons string, l ...api.Expr) api.Expr {
	return api.Expr{Op: op, Name: x, Cons: strings.Fields(cons), Kids: l}
}

// call returns a call of f; funs are its static arguments, with spaces between them.
func call(f, funs string, l ...api.Expr) api.Expr {
	return api.Expr{Op: api.Call, Name: f, Cons: strings.Fields(funs), Kids: l}
}

func copies(n int, e api.Expr) []api.Expr {
	var l []api.Expr
	for range n {
		l = append(l, e)
	}
	return l
}

// words returns n copies of s with spaces between them.
func words(n int, s string) string {
	return strings.TrimSuffix(strings.Repeat(s+" ", n), " ")
}

// deep returns an expression of the depth n.
func deep(n int) api.Expr {
	e := v("x")
	for range n - 1 {
		e = un("-", e)
	}
	return e
}

// large returns an expression of the size n, an odd number, and of a small depth.
func large(n int) api.Expr {
	if n == 1 {
		return v("x")
	}
	left := (n - 1) / 2
	if left%2 == 0 {
		left--
	}
	return bin("+", large(left), large(n-1-left))
}

// small returns a well-formed expression of each Op, several of some.
func small() []api.Expr {
	x := v("x")
	return []api.Expr{
		num(0), num(7), num(1<<63 - 1), boolean(0), boolean(1), con("A"), con("True"), x,
		un("not", x), un("-", num(5)),
		bin("+", x, x), bin("-", x, x), bin("*", x, x), bin("/", x, x), bin("%", x, x), bin("<", x, x),
		bin("<=", x, x), bin("=", x, x), bin("<>", x, x), bin("and", x, x), bin("or", x, x),
		of(api.If, x, num(1), num(2)), of(api.Fby, x, num(1)), of(api.Arrow, x, num(1)), of(api.Pre, x),
		when("A", "c", x),
		arms(api.Merge, "c", "A", x), arms(api.Merge, "c", words(8, "A"), copies(8, x)...),
		arms(api.Match, "c", "A B", x, num(1)), arms(api.Match, "c", words(8, "B"), copies(8, x)...),
		call("f", "", x), call("f", "", copies(6, x)...), call("f", words(6, "g"), x), call("f", "g h", x, num(1)),
		of(api.Every, call("f", "", x), x),
	}
}

func equation(e api.Expr, names ...string) api.Item {
	return api.Item{Eq: api.Eq{Names: names, E: e}}
}

// program returns a program of one node with these items.
func program(items ...api.Item) api.Program {
	return api.Program{Nodes: []api.Node{{Name: "f", Ins: []string{"x"}, Outs: []string{"y"}, Items: items}}}
}

// with returns a program of one node that has e in one equation.
func with(e api.Expr) api.Program { return program(equation(e, "y")) }

// full returns a well-formed program with every part that a program may have.
func full() api.Program {
	f := api.Node{Name: "f", Funs: []string{"g", "h"}, Ins: []string{"a", "b"}, Outs: []string{"c", "d"}}
	f.Items = append(f.Items, equation(of(api.Every, call("k", "g inc", num(1), boolean(1)), v("a")), "c", "d"))
	f.Items = append(f.Items, api.Item{States: []api.State{
		{Name: "Up", Eqs: []api.Eq{{Names: []string{"s"}, E: of(api.Fby, num(0), v("s"))}, {Names: []string{"t"}, E: con("Red")}},
			Ways: []api.Way{{If: un("not", v("a")), To: "Down"}, {If: boolean(0), To: "Up"}}},
		{Name: "Down"},
	}})
	f.Items = append(f.Items,
		equation(arms(api.Match, "a", "False True", of(api.Pre, v("b")), bin("<=", v("b"), num(2))), "u"),
		equation(arms(api.Merge, "u", "Red", when("Red", "u", v("b"))), "w"),
		equation(of(api.If, v("a"), of(api.Arrow, num(3), num(4)), v("u")), "z"))
	return api.Program{
		Enums: []api.Enum{{Name: "colour", Cons: []string{"Red", "Green"}}, {Name: "one", Cons: []string{"One"}}},
		Nodes: []api.Node{{Name: "inc", Ins: []string{"x"}, Outs: []string{"y"}}, f},
	}
}

// fullText is the text of full, written by the chapter.
const fullText = "type colour = Red | Green ; type one = One ; " +
	"node inc ( x ) = ( y ) where end " +
	"node f [ g , h ] ( a , b ) = ( c , d ) where " +
	"( c , d ) = ( k [ g , inc ] ( 1 , true ) every a ) ; " +
	"automaton " +
	"state Up : s = ( 0 fby s ) ; t = Red ; until ( not a ) then Down ; until false then Up ; " +
	"state Down : end ; " +
	"u = match a ( False -> ( pre b ) | True -> ( b <= 2 ) ) ; " +
	"w = merge u ( Red -> ( b when Red ( u ) ) ) ; " +
	"z = ( if a then ( 3 -> 4 ) else u ) ; " +
	"end"

// clone returns a copy of x that shares no memory with it.
func clone[T any](x T) T {
	b, err := json.Marshal(x)
	if err != nil {
		panic(err)
	}
	var c T
	if err := json.Unmarshal(b, &c); err != nil {
		panic(err)
	}
	return c
}

// variants returns copies of x, each with one number, one string or the length of one slice changed, and with the path of the change.
func variants[T any](x T) map[string]T {
	all := map[string]T{}
	changes := paths(reflect.ValueOf(x), nil)
	for _, at := range changes {
		for kind := range 3 {
			c := clone(x)
			if change(reflect.ValueOf(&c).Elem(), at.steps, kind) {
				all[at.text+" "+strconv.Itoa(kind)] = c
			}
		}
	}
	return all
}

// place is a number, a string or a slice inside a value.
type place struct {
	steps []int
	text  string
}

func paths(x reflect.Value, before []int) []place {
	step := func(i int) []int { return append(append([]int{}, before...), i) }
	var l []place
	below := func(i int, name string) {
		field := x
		if x.Kind() == reflect.Struct {
			field = x.Field(i)
		} else {
			field = x.Index(i)
		}
		for _, p := range paths(field, step(i)) {
			l = append(l, place{p.steps, name + "." + p.text})
		}
	}
	switch x.Kind() {
	case reflect.Struct:
		for i := range x.NumField() {
			below(i, x.Type().Field(i).Name)
		}
	case reflect.Slice:
		l = append(l, place{step(0)[:len(before)], "len"})
		for i := range x.Len() {
			below(i, strconv.Itoa(i))
		}
	default:
		l = append(l, place{before, ""})
	}
	return l
}

// change changes what is at the end of steps in the way that kind says, and reports whether there is such a way.
func change(x reflect.Value, steps []int, kind int) bool {
	for _, i := range steps {
		if x.Kind() == reflect.Struct {
			x = x.Field(i)
		} else {
			x = x.Index(i)
		}
	}
	switch x.Kind() {
	case reflect.String:
		before := x.String()
		x.SetString([]string{before + "1", "", "other"}[kind])
		return x.String() != before
	case reflect.Int, reflect.Int64:
		x.SetInt(x.Int() + []int64{1, -1, 1 << 31}[kind])
	case reflect.Slice:
		return resize(x, kind)
	}
	return true
}

// resize appends a zero element to the slice x, removes its last one, or exchanges its first two, if that makes a difference.
func resize(x reflect.Value, kind int) bool {
	n := x.Len()
	switch {
	case kind == 0:
		x.Set(reflect.Append(x, reflect.Zero(x.Type().Elem())))
	case kind == 1 && n > 0:
		x.Set(x.Slice(0, n-1))
	case kind == 2 && n > 1 && !reflect.DeepEqual(x.Index(0).Interface(), x.Index(1).Interface()):
		reflect.Swapper(x.Interface())(0, 1)
	default:
		return false
	}
	return true
}

func checkErr(t *testing.T, what string, got, want api.Errno) {
	t.Helper()
	if got != want {
		t.Errorf("%s: error %d, want %d", what, got, want)
	}
}

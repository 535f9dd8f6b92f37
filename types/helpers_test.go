package types_test

import (
	"encoding/json"
	"strconv"
	"strings"
	"testing"

	"pendule/api"
	"pendule/parse"
	"pendule/types"
)

func typeFault(a, b int) api.Fault { return api.Fault{Err: api.ErrType, A: a, B: b} }

// program returns the program of a text, which must be well-formed.
func program(t *testing.T, text string) api.Program {
	t.Helper()
	p, f := parse.Parse(text)
	if f != (api.Fault{}) {
		t.Fatalf("Parse(%q): fault %v", text, f)
	}
	return p
}

// showType writes a type as int, bool, the name of an enum, or the number of a type variable.
func showType(p api.Program, m api.Type) string {
	switch i := int(m - api.TyEnum); {
	case m == api.TyInt:
		return "int"
	case m == api.TyBool:
		return "bool"
	case 0 <= i && i < len(p.Enums):
		return p.Enums[i].Name
	}
	return strconv.Itoa(int(m))
}

// showSig writes a signature as [FUN, FUN] IN IN -> OUT OUT.
func showSig(p api.Program, s api.Sig) string {
	var l []string
	for _, f := range s.Funs {
		l = append(l, showSig(p, f))
	}
	text := ""
	if len(l) > 0 {
		text = "[" + strings.Join(l, ", ") + "] "
	}
	for _, m := range s.Ins {
		text += showType(p, m) + " "
	}
	text += "->"
	for _, m := range s.Outs {
		text += " " + showType(p, m)
	}
	return text
}

// showInfo writes a signature, a bar, and the variables with their types.
func showInfo(p api.Program, i types.Info) string {
	text := showSig(p, i.Sig) + " |"
	for _, v := range i.Vars {
		text += " " + v.Name + ":" + showType(p, v.Type)
	}
	return text
}

func showInfos(p api.Program, l []types.Info) string {
	var lines []string
	for _, i := range l {
		lines = append(lines, showInfo(p, i))
	}
	return strings.Join(lines, "\n")
}

// inferred returns the types of the nodes of a program that has types.
func inferred(t *testing.T, p api.Program) []types.Info {
	t.Helper()
	l, f := types.Infer(p)
	if f != (api.Fault{}) {
		t.Fatalf("Infer(%v): fault %v", p, f)
	}
	if len(l) != len(p.Nodes) {
		t.Fatalf("Infer(%v): %d infos for %d nodes", p, len(l), len(p.Nodes))
	}
	for _, i := range l {
		for _, v := range i.Vars {
			if v.Clock != nil {
				t.Errorf("Infer(%v): %s has the clock %v", p, v.Name, v.Clock)
			}
		}
	}
	return l
}

// checkTypes holds the types of the last node of a text, written as by showInfo.
func checkTypes(t *testing.T, text, want string) {
	t.Helper()
	p := program(t, text)
	l := inferred(t, p)
	if got := showInfo(p, l[len(l)-1]); got != want {
		t.Errorf("Infer(%q): %s, want %s", text, got, want)
	}
}

// checkProgramFault holds the fault of p, beside which there are no types.
func checkProgramFault(t *testing.T, what string, p api.Program, want api.Fault) {
	t.Helper()
	if l, got := types.Infer(p); got != want || len(l) > 0 {
		t.Errorf("Infer of %q: fault %v and the types %q, want %v", what, got, showInfos(p, l), want)
	}
}

func checkFault(t *testing.T, want api.Fault, texts ...string) {
	t.Helper()
	for _, s := range texts {
		checkProgramFault(t, s, program(t, s), want)
	}
}

// prelude declares what the tests of items use: two enums, a node with two results, polymorphic ones, and one with a static parameter.
const prelude = "type colour = Red | Green | Blue; type one = One; " +
	"node inc (a) = (b) where b = a + 1; end " +
	"node two (a, b) = (c, d) where c = b; d = a; end " +
	"node same (a) = (b) where b = a; end " +
	"node eq (a, b) = (c) where c = a = b; end " +
	"node any (a) = (b) where b = b; end " +
	"node twice [g] (a) = (b) where b = g(g(a)); end "

// last is the index of the node behind those of prelude.
const last = 6

func inNode(items string) string {
	return prelude + "node f (x) = (y) where " + items + " end"
}

// checkVars holds the types of the variables of a node with the In x, the Out y and these items.
func checkVars(t *testing.T, items, want string) {
	t.Helper()
	p := program(t, inNode(items))
	got := ""
	for _, v := range inferred(t, p)[last].Vars {
		got += " " + v.Name + ":" + showType(p, v.Type)
	}
	if got = strings.TrimSpace(got); got != want {
		t.Errorf("Infer of %q: %s, want %s", items, got, want)
	}
}

// checkItems holds nodes with these items against ErrType at item b.
func checkItems(t *testing.T, b int, items ...string) {
	t.Helper()
	for _, s := range items {
		checkFault(t, typeFault(last, b), inNode(s))
	}
}

// clone returns a copy of x that shares no memory with it.
func clone[T any](x T) T {
	b, err := json.Marshal(x)
	if err != nil {
		panic(err)
	}
	var c T
	if err := json.Unmarshal(b, &c); err != nil {
		panic(err)
	}
	return c
}

// showProgram writes all of p.
func showProgram(p api.Program) string {
	b, err := json.Marshal(p)
	if err != nil {
		panic(err)
	}
	return string(b)
}

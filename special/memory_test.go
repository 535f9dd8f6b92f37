package special_test

import (
	"reflect"
	"testing"

	"pendule/api"
	"pendule/special"
)

// array is the memory behind a slice, from its first element up to its capacity.
type array struct {
	from, to uintptr
	where    string
}

// arrays returns the arrays behind the slices in v, and behind those in their elements.
func arrays(v reflect.Value, where string) []array {
	var l []array
	switch v.Kind() {
	case reflect.Struct:
		for i := range v.NumField() {
			l = append(l, arrays(v.Field(i), where+"."+v.Type().Field(i).Name)...)
		}
	case reflect.Slice:
		if v.Cap() > 0 {
			l = append(l, array{v.Pointer(), v.Pointer() + uintptr(v.Cap())*v.Type().Elem().Size(), where})
		}
		for i := range v.Len() {
			l = append(l, arrays(v.Index(i), where)...)
		}
	}
	return l
}

// checkApart fails where two lists, of these programs or of one of them, share memory.
func checkApart(t *testing.T, programs ...api.Program) {
	t.Helper()
	var l []array
	for _, p := range programs {
		l = append(l, arrays(reflect.ValueOf(p), "Program")...)
	}
	for i, a := range l {
		for _, b := range l[:i] {
			if a.from < b.to && b.from < a.to {
				t.Fatalf("%s shares memory with %s", a.where, b.where)
			}
		}
	}
}

// R4: what is made shares no memory with the program that it is made of, nor with what is made another time, nor one list of it with another.
func TestMemory(t *testing.T) {
	const items = "main = both[a, deep](x) + both[deep, a](x); k = if x = 1 then A else B; z = merge k (A -> use[a](x) when A(k) | B -> (use[a](x) every true) when B(k)); (v, w) = pair[b](x, x);"
	p := program(t, prelude+"node main (x) = (main) where "+items+" end")
	before := show(p)
	q, r := made(t, p, "main"), made(t, p, "main")
	checkApart(t, p, q, r)
	s := made(t, q, q.Nodes[len(q.Nodes)-1].Name)
	checkApart(t, p, q, s)
	if show(p) != before {
		t.Errorf("%s is changed to %s", before, show(p))
	}
	// Of a program that is changed afterwards, nothing was kept.
	p.Nodes[0].Items[0].E = api.Expr{Op: api.Int, N: 7}
	if show(q) != show(r) {
		t.Errorf("%s is changed to %s", show(r), show(q))
	}
	m := newMaker(41)
	for range 20 {
		p := m.program(5, 50)
		before := show(p)
		q, _ := special.Make(p, "n4")
		checkApart(t, p, q)
		if show(p) != before {
			t.Errorf("%s is changed to %s", before, show(p))
		}
	}
}

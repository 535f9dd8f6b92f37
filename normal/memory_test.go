package normal_test

import (
	"reflect"
	"testing"

	"pendule/api"
	"pendule/normal"
)

// array is the memory behind a slice, from its first element up to its capacity.
type array struct {
	from, to uintptr
	where    string
}

// arrays returns the arrays behind the slices in v, and behind those in their elements.
func arrays(v reflect.Value, where string) []array {
	var l []array
	switch v.Kind() {
	case reflect.Struct:
		for i := range v.NumField() {
			l = append(l, arrays(v.Field(i), where+"."+v.Type().Field(i).Name)...)
		}
	case reflect.Slice:
		if v.Cap() > 0 {
			l = append(l, array{v.Pointer(), v.Pointer() + uintptr(v.Cap())*v.Type().Elem().Size(), where})
		}
		for i := range v.Len() {
			l = append(l, arrays(v.Index(i), where)...)
		}
	}
	return l
}

// checkApart fails where two lists, of these values or of one of them, share memory.
func checkApart(t *testing.T, values ...any) {
	t.Helper()
	var l []array
	for _, v := range values {
		l = append(l, arrays(reflect.ValueOf(v), reflect.TypeOf(v).Name())...)
	}
	for i, a := range l {
		for _, b := range l[:i] {
			if a.from < b.to && b.from < a.to {
				t.Fatalf("%s shares memory with %s", a.where, b.where)
			}
		}
	}
}

// R4: what is made shares no memory with the program that it is made of, nor with what is made another time, nor one list of it with another.
func TestMemory(t *testing.T) {
	p := program(t, inNode("z = (pre (x when True(c))) fby merge w (Red -> 1 | Green -> pre 2 | Blue -> 3 -> 4); w = d when True(c); y = 0 -> id(x) every (c -> true); "+
		"(u, v) = swap(y, merge c (False -> id(1) | True -> z)) every c; o = (1 fby (2 -> id(x))) when True(c) when Red(w);"))
	before := show(p)
	l, r := made(t, p), made(t, p)
	checkApart(t, p, l, r)
	if show(p) != before {
		t.Errorf("%s is changed to %s", before, show(p))
	}
	// Of a program that is changed afterwards, nothing was kept.
	for k := range p.Nodes {
		for _, e := range exprsOf(&p.Nodes[k]) {
			*e = api.Expr{Op: api.Int, N: 99}
		}
		p.Nodes[k].Ins[0], p.Nodes[k].Outs[0], p.Nodes[k].Items[0].Names[0] = "", "", ""
	}
	if show(l) != show(r) {
		t.Errorf("%s is changed to %s", show(r), show(l))
	}
	m := newMaker(41)
	for range 30 {
		p := m.program(3)
		l, _ := normal.Make(p)
		checkApart(t, p, l)
	}
}

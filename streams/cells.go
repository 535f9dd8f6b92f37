package streams

import (
	"slices"

	"pendule/api"
	"pendule/word"
)

func value(n int64) api.Cell { return api.Cell{Kind: api.Value, N: n} }

func undefined() api.Cell { return api.Cell{Kind: api.Nil} }

func absent() api.Cell { return api.Cell{Kind: api.Absent} }

// isTrue reports whether c is a Value other than 0.
func isTrue(c api.Cell) bool { return c.Kind == api.Value && c.N != 0 }

// operation returns the cell of a Un or a Bin with these kids.
func operation(operator string, kids []api.Cell) api.Cell {
	if slices.Contains(kids, undefined()) {
		return undefined()
	}
	var n int64
	if len(kids) == 1 {
		n, _ = word.Un(operator, kids[0].N)
	} else {
		n, _ = word.Bin(operator, kids[0].N, kids[1].N)
	}
	return value(n)
}

// choice returns the cell of an If with these kids.
func choice(kids []api.Cell) api.Cell {
	switch {
	case kids[0] == undefined():
		return undefined()
	case isTrue(kids[0]):
		return kids[1]
	}
	return kids[2]
}

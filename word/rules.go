package word

import (
	"math"

	"pendule/api"
)

// anyType is the operand type of an operator whose operands may have any type that both have.
const anyType api.Type = 0

func takesOne(name string) (api.Type, api.Type, bool) {
	switch name {
	case "-":
		return api.TyInt, api.TyInt, true
	case "not":
		return api.TyBool, api.TyBool, true
	}
	return 0, 0, false
}

func takesTwo(name string) (api.Type, api.Type, bool) {
	switch name {
	case "+", "-", "*", "/", "%":
		return api.TyInt, api.TyInt, true
	case "<", "<=":
		return api.TyInt, api.TyBool, true
	case "=", "<>":
		return anyType, api.TyBool, true
	case "and", "or":
		return api.TyBool, api.TyBool, true
	}
	return 0, 0, false
}

func quotient(a, b int64) int64 {
	if !canDivide(a, b) {
		return 0
	}
	return a / b
}

func remainder(a, b int64) int64 {
	if !canDivide(a, b) {
		return 0
	}
	return a % b
}

// canDivide reports whether a divided by b is a number of 64 bits: where it is not, Go would panic, or wrap the quotient around, and the document wants 0.
func canDivide(a, b int64) bool {
	return b != 0 && !(a == math.MinInt64 && b == -1)
}

// holds reports whether a counts as true.
func holds(a int64) bool { return a != 0 }

func boolean(b bool) int64 {
	if b {
		return 1
	}
	return 0
}

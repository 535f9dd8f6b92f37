package types_test

import (
	"math"
	"testing"

	"pendule/api"
	"pendule/types"
)

// P8.1: Set puts a type in the place of a type variable that the list has an index for.
func TestSet(t *testing.T) {
	with := []api.Type{api.TyBool, -7, api.TyEnum + 3, 0, -1}
	for _, x := range []struct {
		m    api.Type
		with []api.Type
		want api.Type
	}{
		{-1, with, api.TyBool}, {-2, with, -7}, {-3, with, api.TyEnum + 3}, {-4, with, 0}, {-5, with, -1}, {-6, with, -6}, {-7, with, -7},
		{api.TyInt, with, api.TyInt}, {api.TyBool, with, api.TyBool}, {api.TyEnum, with, api.TyEnum}, {api.TyEnum + 31, with, api.TyEnum + 31}, {0, with, 0}, {3, with, 3},
		{-1, nil, -1}, {-2, nil, -2}, {0, nil, 0}, {1, nil, 1}, {-1, []api.Type{}, -1}, {-1, []api.Type{-2, -1}, -2}, {-2, []api.Type{-2, -1}, -1}, {-1, with[:1:1], api.TyBool}, {-2, with[:1:1], -2},
		{math.MinInt, with, math.MinInt}, {math.MinInt + 1, with, math.MinInt + 1}, {math.MaxInt, with, math.MaxInt}, {math.MinInt, nil, math.MinInt}, {math.MaxInt, nil, math.MaxInt},
		{-1 << 32, with, -1 << 32}, {-1<<32 - 1, with, -1<<32 - 1}, {-257, with, -257}, {-65537, with, -65537},
	} {
		if got := types.Set(x.m, x.with); got != x.want {
			t.Errorf("Set(%d, %v) = %d, want %d", x.m, x.with, got, x.want)
		}
	}
}

// P8.1: Set takes each index of a list, and no other one, and changes no list.
func TestSetOfLists(t *testing.T) {
	for n := range 70 {
		with := make([]api.Type, n)
		for i := range with {
			with[i] = api.Type(1000 + i)
		}
		for m := api.Type(-80); m < 80; m++ {
			want := m
			if m < 0 && m >= api.Type(-n) {
				want = 999 - m
			}
			if got := types.Set(m, with); got != want {
				t.Fatalf("Set(%d, a list of %d) = %d, want %d", m, n, got, want)
			}
		}
		for i, m := range with {
			if m != api.Type(1000+i) {
				t.Fatalf("the list of %d is changed", n)
			}
		}
	}
}

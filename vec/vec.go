// Package vec is layer 1: see shared/doc/01-vec.md.
package vec

import (
	"math/bits"
	"slices"

	"hammock/api"
)

// Zero returns a vector of zeros, an empty one if dims is less than 1.
func Zero(dims int) []int64 { return make([]int64, max(dims, 0)) }

// Add returns the sum of the vectors and true; or nothing and false without vectors, for different dimensions, or if a sum is outside of the range of int64.
func Add(l ...[]int64) ([]int64, bool) {
	if len(l) == 0 {
		return nil, false
	}
	sum := Zero(len(l[0]))
	for _, v := range l {
		if len(v) != len(sum) {
			return nil, false
		}
	}
	for i := range sum {
		x, ok := sumAt(i, l)
		if !ok {
			return nil, false
		}
		sum[i] = x
	}
	return sum, true
}

// sumAt returns the sum of the elements at an index, and whether it is in the range of int64.
func sumAt(i int, l [][]int64) (int64, bool) {
	// 128 bits (high and low), since a sum may leave the range and return to it.
	var high int64
	var low uint64
	for _, v := range l {
		var carry uint64
		low, carry = bits.Add64(low, uint64(v[i]), 0)
		high += v[i]>>63 + int64(carry)
	}
	sum := int64(low)
	return sum, high == sum>>63
}

// Sub returns the differences of the elements and true; or nothing and false for different dimensions, or if a difference is negative or outside of the range of int64.
func Sub(a, b []int64) ([]int64, bool) {
	return combine(a, b, func(x, y int64) (int64, bool) {
		// If x is not less than y, only a difference that wrapped around is negative.
		return x - y, x >= y && x-y >= 0
	})
}

// Most returns the greater element for each index and true, or nothing and false for different dimensions.
func Most(a, b []int64) ([]int64, bool) {
	return combine(a, b, func(x, y int64) (int64, bool) { return max(x, y), true })
}

// combine returns the results of f for the elements of two vectors and true; or nothing and false for different dimensions, or if f returns false for some elements.
func combine(a, b []int64, f func(x, y int64) (int64, bool)) ([]int64, bool) {
	if len(a) != len(b) {
		return nil, false
	}
	v := Zero(len(a))
	for i := range v {
		x, ok := f(a[i], b[i])
		if !ok {
			return nil, false
		}
		v[i] = x
	}
	return v, true
}

// Fits reports whether the dimensions are the same and no element of a is greater than that of b.
func Fits(a, b []int64) bool {
	if len(a) != len(b) {
		return false
	}
	for i := range a {
		if a[i] > b[i] {
			return false
		}
	}
	return true
}

// Same reports whether the dimensions and the elements are the same.
func Same(a, b []int64) bool { return slices.Equal(a, b) }

// Wrong returns -1 for a vector that is valid for a dimension; otherwise the index of its first element that is outside of the range, or the index from which the dimensions differ.
func Wrong(v []int64, dims int) int {
	i := slices.IndexFunc(v, func(x int64) bool { return x < 0 || x > api.MaxAmount })
	if i >= 0 || len(v) == dims {
		return i
	}
	return max(min(dims, len(v)), 0)
}

// Package size is layer 1: see shared/doc/01-size.md.
package size

import (
	"intarsia/api"
)

// beyond stands for every number that is too great.
const beyond = api.MaxCells + 1

// Mul returns the product of a and b if these and the product are from 0 to limit.
func Mul(a, b, limit int) (int, bool) {
	if a < 0 || b < 0 || a > limit || b > limit {
		return 0, false
	}
	// The product may wrap around, so the limit is divided instead.
	if a > 0 && b > limit/a {
		return 0, false
	}
	return a * b, true
}

// Product returns the product of dimensions.
func Product(l []int) (int, api.Errno) {
	return total(l, 1, func(so, n int) int {
		if n == 0 {
			return 0 // also where so is beyond: only the product of all numbers counts
		}
		if product, ok := Mul(so, n, api.MaxCells); ok {
			return product
		}
		return beyond
	})
}

// Sum returns the sum of dimensions.
func Sum(l ...int) (int, api.Errno) {
	return total(l, 0, func(so, n int) int { return min(so+n, beyond) })
}

// Dimension returns v if it is a right dimension.
func Dimension(v int64) (int, api.Errno) {
	if v < 0 {
		return 0, api.ErrDomain
	}
	if v > api.MaxCells {
		return 0, api.ErrLimit
	}
	return int(v), api.OK
}

// Magnitude returns the absolute value of v if it is at most MaxCells.
func Magnitude(v int64) (int, api.Errno) {
	// The least int64 has no absolute value, so v is checked before it is negated.
	if v < -api.MaxCells || v > api.MaxCells {
		return 0, api.ErrLimit
	}
	return int(max(v, -v)), api.OK
}

// Mod returns the remainder of k modulo n, which is never negative.
func Mod(k int64, n int) int {
	if n <= 0 {
		return 0
	}
	rest := int(k % int64(n))
	if rest < 0 {
		rest += n
	}
	return rest
}

// total folds dimensions by step, which returns beyond where its result is greater than MaxCells.
func total(l []int, start int, step func(so, n int) int) (int, api.Errno) {
	if fold(l, false, func(so bool, n int) bool { return so || n < 0 }) {
		return 0, api.ErrDomain
	}
	if fold(l, false, func(so bool, n int) bool { return so || n > api.MaxCells }) {
		return 0, api.ErrLimit
	}
	result := fold(l, start, step)
	if result > api.MaxCells {
		return 0, api.ErrLimit
	}
	return result, api.OK
}

// fold steps from start through the items of l.
func fold[T, R any](l []T, start R, step func(so R, item T) R) R {
	so := start
	for _, item := range l {
		so = step(so, item)
	}
	return so
}

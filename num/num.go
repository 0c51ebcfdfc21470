// Package num is layer 1: numbers that do not grow too great. See shared/doc/01-num.md.
package num

import "haulier/api"

// The root of Inf is 2^30, so all that is below a root has no bit above this one.
const topRootBit = 1 << 29

func safe(n int) bool { return -api.Inf <= n && n <= api.Inf }

// Two safe numbers added or subtracted come to at most 2^61, so the result
// itself can be looked at: it has not wrapped round.
func checked(a, b, result int) (int, api.Errno) {
	if !safe(a) || !safe(b) || !safe(result) {
		return 0, api.ErrOver
	}
	return result, api.OK
}

// Add is a + b, or ErrOver, if a, b or that is not from -Inf to Inf.
func Add(a, b int) (int, api.Errno) { return checked(a, b, a+b) }

// Sub is a - b, or ErrOver, if a, b or that is not from -Inf to Inf.
func Sub(a, b int) (int, api.Errno) { return checked(a, b, a-b) }

// Mul is a * b, or ErrOver, if a, b or that is not from -Inf to Inf.
func Mul(a, b int) (int, api.Errno) {
	if !safe(a) || !safe(b) {
		return 0, api.ErrOver
	}
	// A product may wrap round to a safe number, so it is divided ahead of being made.
	if a != 0 && size(b) > api.Inf/size(a) {
		return 0, api.ErrOver
	}
	return a * b, api.OK
}

// Only for safe numbers: the least int has no size.
func size(n int) int {
	if n < 0 {
		return -n
	}
	return n
}

// Sum is some costs together; what is below 0 counts as 0, and Inf stays Inf.
func Sum(l ...int) int {
	sum := 0
	for _, cost := range l {
		// Both are at most Inf here, so they cannot wrap round.
		sum = min(sum+min(max(cost, 0), api.Inf), api.Inf)
	}
	return sum
}

// Root is the least number from 0 on whose square is at least n; n above Inf counts as Inf.
func Root(n int) int {
	if n < 1 {
		return 0
	}
	n = min(n, api.Inf)
	// below becomes the greatest number whose square is less than n: the root is the next one.
	below, bit := 0, topRootBit
nextBit:
	if higher := below | bit; higher*higher < n {
		below = higher
	}
	bit >>= 1
	if bit > 0 {
		goto nextBit
	}
	return below + 1
}

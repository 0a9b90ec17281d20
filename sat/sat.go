// Package sat is layer 1: numbers that stay where they are greatest. See shared/doc/01-sat.md.
package sat

import (
	"math/bits"

	"clepsydra/api"
)

// Clip: a number, not beyond api.Most.
func Clip(x int) int { return Bound(x, -api.Most, api.Most) }

// Bound: a number, not below one nor above another.
func Bound(x, lo, hi int) int {
	// lo goes first: where hi is below it, no number is between them.
	if x < lo || hi < lo {
		return lo
	}
	return min(x, hi)
}

// Add: the sum of numbers, one behind the other.
func Add(list ...int) int {
	sum := 0
	for _, x := range list {
		// Two clipped numbers make 2^62 at most, which an int still holds.
		sum = Clip(sum + Clip(x))
	}
	return sum
}

// Sub: a difference.
func Sub(a, b int) int { return Clip(Clip(a) - Clip(b)) }

// Neg: the opposite.
func Neg(a int) int { return -Clip(a) }

// Abs: without its sign.
func Abs(a int) int { return max(Clip(a), Neg(a)) }

// Mul: a product.
func Mul(a, b int) int {
	size := mulSizes(Abs(a), Abs(b))
	if (a < 0) != (b < 0) {
		return -size
	}
	return size
}

// mulSizes is apart from Mul since only numbers without signs can be multiplied into two words.
func mulSizes(a, b int) int {
	high, low := bits.Mul64(uint64(a), uint64(b))
	if high != 0 || low > api.Most {
		return api.Most
	}
	return int(low)
}

// Max: the greatest of numbers; -api.Most of none.
func Max(list ...int) int {
	most := -api.Most
	for _, x := range list {
		most = max(most, Clip(x))
	}
	return most
}

// Min: the least of numbers; api.Most of none.
func Min(list ...int) int {
	least := api.Most
	for _, x := range list {
		least = min(least, Clip(x))
	}
	return least
}

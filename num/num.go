// Package num is layer 1: 64-bit arithmetic with overflow checks, and times that are clipped.
package num

import (
	"math"
	"math/bits"

	"tapster/api"
)

// word is what a number is worked out in: an int where the wrap-round shows an overflow, a uint64 where math/bits needs words without a sign.
type word interface {
	int | uint64
}

// told answers made only where fits holds, so that no half-made number stands beside a false.
func told[W word](made W, fits func(W) bool) (int, bool) {
	if !fits(made) {
		return 0, false
	}
	return int(made), true
}

// Add tells the sum of a and b; 0, false, if it is no number of 64 bits.
func Add(a int, b int) (int, bool) {
	return told(a+b, func(sum int) bool { return (sum > a) == (b > 0) })
}

// Sub tells a less b; 0, false, if it is no number of 64 bits.
func Sub(a int, b int) (int, bool) {
	return told(a-b, func(rest int) bool { return (rest < a) == (b > 0) })
}

// Mul tells the product of a and b; 0, false, if it is no number of 64 bits.
func Mul(a int, b int) (int, bool) {
	high, low := bits.Mul64(size(a), size(b))
	most := uint64(math.MaxInt64)
	if (a < 0) == (b < 0) {
		return told(low, func(product uint64) bool { return high == 0 && product <= most })
	}
	// Below 0 there is one number more: -2^63.
	return told(-low, func(product uint64) bool { return high == 0 && -product <= most+1 })
}

// Part tells a times b by c, rounded down; 0, false, if a or b is below 0, c is not above 0, or the answer would be above 2^63 - 1.
func Part(a int, b int, c int) (int, bool) {
	return quotient(a, b, c, down)
}

// Whole tells a times b by c, rounded up; 0, false, as Part.
func Whole(a int, b int, c int) (int, bool) {
	return quotient(a, b, c, up)
}

// Clamp tells t, clipped to 0 to MaxTime.
func Clamp(t int) int {
	return min(max(t, 0), api.MaxTime)
}

// Later tells the time d after t, clipped to MaxTime; a d below 0 counts 0.
func Later(t int, d int) int {
	// A d above MaxTime ends at MaxTime anyway; clipped ahead of the sum, it can't overflow.
	return Clamp(Clamp(t) + Clamp(d))
}

// size is how far n is from 0; as a word without a sign it has room for that of -2^63.
func size(n int) uint64 {
	if n < 0 {
		return -uint64(n)
	}
	return uint64(n)
}

// rounding is to which side a quotient goes that is not whole.
type rounding int

const (
	down rounding = iota
	up
)

// quotient divides the product of a and b, of two words, by c.
func quotient(a int, b int, c int, to rounding) (int, bool) {
	if a < 0 || b < 0 || c <= 0 {
		return 0, false
	}
	high, low := bits.Mul64(uint64(a), uint64(b))
	by := uint64(c)
	switch to {
	case up:
		// With by - 1 more, rounding down tells what rounding up would have told.
		var carry uint64
		low, carry = bits.Add64(low, by-1, 0)
		high += carry
		fallthrough
	default:
		// Div64 would panic: such a quotient takes more than one word.
		if high >= by {
			return 0, false
		}
		parts, _ := bits.Div64(high, low, by)
		return told(parts, func(n uint64) bool { return n <= math.MaxInt64 })
	}
}

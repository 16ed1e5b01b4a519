package cascade

import (
	"math"
	"math/bits"
)

// limited returns the number from least to most that is the nearest to n.
func limited(n, least, most int) int { return max(least, min(n, most)) }

// scaled returns size * num / unit, cut off toward zero, for a unit above 0. The product may be too great for an int; if the quotient is too great, it is the greatest int of its sign.
func scaled(size, num, unit int) int {
	negative := (size < 0) != (num < 0)
	most := uint64(math.MaxInt)
	if negative {
		most++
	}
	high, low := bits.Mul64(magnitude(size), magnitude(num))
	quotient := most
	if high < uint64(unit) {
		whole, _ := bits.Div64(high, low, uint64(unit))
		quotient = min(whole, most)
	}
	if negative {
		return int(-quotient)
	}
	return int(quotient)
}

// magnitude returns the absolute value of a number, also of the least int, which has no opposite among the ints.
func magnitude(n int) uint64 {
	if n < 0 {
		return -uint64(n)
	}
	return uint64(n)
}

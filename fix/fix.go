// Package fix is layer 1: arithmetic on bounded integers (see shared/doc/01-fix.md).
package fix

import (
	"math/bits"

	"decoupage/api"
)

// whole is the part that stands for all of a base, in hundredths of a percent.
const whole = 10000

// Fits reports whether n is in the range -MaxUnit to MaxUnit.
func Fits(n int64) bool { return -api.MaxUnit <= n && n <= api.MaxUnit }

// Sum returns the sum of l, and false if an element or the sum does not fit.
func Sum(l ...int64) (int64, bool) {
	// Some 2^13 elements that fit may exceed int64, so the total is kept in two words.
	var high int64
	var low uint64
	for _, n := range l {
		if !Fits(n) {
			return 0, false
		}
		var carry uint64
		low, carry = bits.Add64(low, uint64(n), 0)
		high += n>>63 + int64(carry)
	}
	sum := int64(low)
	if high != sum>>63 || !Fits(sum) {
		return 0, false
	}
	return sum, true
}

// Part returns so many hundredths of a percent of base, rounded down, and false if an argument is out of its range or the result does not fit.
func Part(base, part int64) (int64, bool) {
	if base < 0 || base > api.MaxUnit || part < -api.MaxPart || part > api.MaxPart {
		return 0, false
	}
	// base * part may exceed int64; the multiples of whole in base need no rounding, so only the remainder is divided.
	n := base/whole*part + floorDiv(base%whole*part, whole)
	if !Fits(n) {
		return 0, false
	}
	return n, true
}

// Half returns n divided by 2, rounded down.
func Half(n int64) int64 { return n >> 1 }

// Clamp returns the lesser of n and most, or least if that is greater.
func Clamp(n, least, most int64) int64 { return max(min(n, most), least) }

// floorDiv divides by a positive number; Go's own division rounds towards zero.
func floorDiv(n, by int64) int64 {
	q := n / by
	if n%by < 0 {
		q--
	}
	return q
}

// Package fbit is layer 1: floats at their edges. See shared/doc/01-fbit.md.
package fbit

import (
	"math"

	"reprise/api"
)

// leastNormal is 2^-1022: what is smaller, but isn't 0, is subnormal.
const leastNormal = 0x1p-1022

// wholeEnd is 2^63: the floats of an int64 lie from -wholeEnd on, and below wholeEnd.
const wholeEnd = 0x1p63

// farScale is more powers of two than lie between the ends of the finite
// floats (2^-1075, half of the smallest one, and 2^1024): any float but 0 that
// is scaled by so many, or by more, is infinite or 0.
const farScale = 2200

// Class: what kind of float x is.
func Class(x float64) int {
	size := math.Abs(x)
	switch {
	case isNaN(x):
		return api.Nan
	case size > math.MaxFloat64:
		return api.Infinite
	case size >= leastNormal:
		return api.Normal
	case size > 0:
		return api.Small
	}
	return api.Zero
}

// Canon: x, of a NaN the one that is told.
func Canon(x float64) float64 {
	if isNaN(x) {
		return math.Float64frombits(api.QuietNaN)
	}
	return x
}

// Order: -1, 0 or 1: all floats in one row.
func Order(a float64, b float64) int {
	switch {
	case a < b:
		return -1
	case a > b:
		return 1
	case a == b:
		// Only noughts are equal and differ still: by their signs.
		return orderFlags(!math.Signbit(a), !math.Signbit(b))
	}
	return orderFlags(isNaN(a), isNaN(b))
}

// Least, Most: the lesser, the greater of two in that row.
func Least(a float64, b float64) float64 {
	if Order(a, b) < 0 {
		return Canon(a)
	}
	return Canon(b)
}

func Most(a float64, b float64) float64 {
	if Order(a, b) > 0 {
		return Canon(a)
	}
	return Canon(b)
}

// Whole: the whole part as a number of 64 bits, as near as there is one.
func Whole(x float64) int64 {
	// The language leaves open what a conversion makes of what doesn't fit.
	switch {
	case isNaN(x):
		return 0
	case x >= wholeEnd:
		return math.MaxInt64
	case x < -wholeEnd:
		return math.MinInt64
	}
	return int64(x)
}

// Of: the float nearest to n.
func Of(n int64) float64 { return float64(n) }

// Floor: the greatest whole float that isn't above x.
func Floor(x float64) float64 { return Canon(math.Floor(x)) }

// Scale: x times 2 to the n, rounded once.
func Scale(x float64, n int) float64 {
	// math.Ldexp adds x's own exponent to n, which would wrap round at the ends of int.
	n = max(-farScale, min(n, farScale))
	return Canon(math.Ldexp(x, n))
}

// isNaN leans on a NaN being the one float that isn't equal to itself.
func isNaN(x float64) bool { return x != x }

// orderFlags: -1, 0 or 1: false stands ahead of true.
func orderFlags(a bool, b bool) int {
	switch {
	case a == b:
		return 0
	case b:
		return -1
	}
	return 1
}

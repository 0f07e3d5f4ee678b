package fixed

import (
	"math/bits"

	"clevis/api"
)

// size is how far a number is from 0: unlike a wide number it can tell 2^127,
// how far the least of them is.
type size struct{ hi, lo uint64 }

// Divide tells a divided by d, rounded as how says.
func Divide(a Wide, d int64, how int) (Wide, api.Errno) {
	if d == 0 || how < Floor || how > Even {
		return Wide{}, api.ErrArg
	}
	by := sizeOf(Of(d)).lo
	quotient, rest := sizeOf(a).divide(by)
	below := (a.Hi < 0) != (d < 0)
	if away(quotient, rest, by, below, how) {
		quotient = quotient.next()
	}
	return quotient.signed(below)
}

// away tells whether the rounded quotient is the one farther from 0.
func away(quotient size, rest, by uint64, below bool, how int) bool {
	if rest == 0 {
		return false
	}
	switch how {
	case Floor:
		return below
	case Ceil:
		return !below
	case Even:
		// Not twice the rest: that might not fit.
		left := by - rest
		return rest > left || rest == left && quotient.lo%2 == 1
	}
	return false
}

// sizeOf tells how far a is from 0.
func sizeOf(a Wide) size {
	if a.Hi < 0 {
		a = part(Wide{}, a)
	}
	return size{hi: uint64(a.Hi), lo: a.Lo}
}

// signed tells the number that is so far from 0, above or below it.
func (n size) signed(below bool) (Wide, api.Errno) {
	a := Wide{Hi: int64(n.hi), Lo: n.lo}
	if below {
		a = part(Wide{}, a)
	}
	if a != (Wide{}) && (a.Hi < 0) != below {
		return Wide{}, api.ErrOver
	}
	return a, api.OK
}

// divide tells the quotient, rounded down, and what is left.
func (n size) divide(by uint64) (size, uint64) {
	hi, rest := bits.Div64(0, n.hi, by)
	lo, rest := bits.Div64(rest, n.lo, by)
	return size{hi: hi, lo: lo}, rest
}

// next tells the size that is greater by 1.
func (n size) next() size {
	lo, carry := bits.Add64(n.lo, 1, 0)
	return size{hi: n.hi + carry, lo: lo}
}

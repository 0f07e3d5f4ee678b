// Package fixed is layer 1: numbers of 64 and 128 bits that never go round.
package fixed

import (
	"cmp"
	"math/bits"

	"clevis/api"
)

// How a quotient is rounded.
const (
	Floor = iota
	Ceil
	Zero
	Even
)

// Wide is a number of 128 bits: Hi times 2^64 and Lo.
type Wide struct {
	Hi int64
	Lo uint64
}

// Add tells a and b together.
func Add(a, b int64) (int64, api.Errno) {
	return Int(join(Of(a), Of(b)))
}

// Sub tells a less b.
func Sub(a, b int64) (int64, api.Errno) {
	return Int(part(Of(a), Of(b)))
}

// Mul tells a times b.
func Mul(a, b int64) (int64, api.Errno) {
	return Int(Times(a, b))
}

// Sum tells all of l together.
func Sum(l ...int64) (int64, api.Errno) {
	// Only the whole sum must fit: on the way there it may be above 64 bits,
	// and no list is long enough to lead it above 128.
	total := Wide{}
	for _, n := range l {
		total = join(total, Of(n))
	}
	return Int(total)
}

// Of tells a as a wide number.
func Of(a int64) Wide {
	return Wide{Hi: a >> 63, Lo: uint64(a)}
}

// Times tells a times b.
func Times(a, b int64) Wide {
	hi, lo := bits.Mul64(uint64(a), uint64(b))
	// A number below 0 was taken for one that is 2^64 greater.
	if a < 0 {
		hi -= uint64(b)
	}
	if b < 0 {
		hi -= uint64(a)
	}
	return Wide{Hi: int64(hi), Lo: lo}
}

// Plus tells all of l together.
func Plus(l ...Wide) (Wide, api.Errno) {
	// Only the whole sum must fit: what is above 128 bits on the way there
	// stands in a third word.
	var top int64
	var hi, lo, carry uint64
	for _, a := range l {
		lo, carry = bits.Add64(lo, a.Lo, 0)
		hi, carry = bits.Add64(hi, uint64(a.Hi), carry)
		top += a.Hi>>63 + int64(carry)
	}
	if top != int64(hi)>>63 {
		return Wide{}, api.ErrOver
	}
	return Wide{Hi: int64(hi), Lo: lo}, api.OK
}

// Minus tells a less b.
func Minus(a, b Wide) (Wide, api.Errno) {
	rest := part(a, b)
	if (a.Hi < 0) != (b.Hi < 0) && (rest.Hi < 0) != (a.Hi < 0) {
		return Wide{}, api.ErrOver
	}
	return rest, api.OK
}

// Opposite tells 0 less a.
func Opposite(a Wide) (Wide, api.Errno) {
	return Minus(Wide{}, a)
}

// Compare tells -1, 0 or 1: a is less than b, the same, or greater.
func Compare(a, b Wide) int {
	return cmp.Or(cmp.Compare(a.Hi, b.Hi), cmp.Compare(a.Lo, b.Lo))
}

// Sign compares a with 0.
func Sign(a Wide) int {
	return Compare(a, Wide{})
}

// Int tells a as a number of 64 bits.
func Int(a Wide) (int64, api.Errno) {
	n := int64(a.Lo)
	if a != Of(n) {
		return 0, api.ErrOver
	}
	return n, api.OK
}

// join adds without asking whether the sum fits.
func join(a, b Wide) Wide {
	lo, carry := bits.Add64(a.Lo, b.Lo, 0)
	hi, _ := bits.Add64(uint64(a.Hi), uint64(b.Hi), carry)
	return Wide{Hi: int64(hi), Lo: lo}
}

// part takes b off a without asking whether the difference fits.
func part(a, b Wide) Wide {
	lo, borrow := bits.Sub64(a.Lo, b.Lo, 0)
	hi, _ := bits.Sub64(uint64(a.Hi), uint64(b.Hi), borrow)
	return Wide{Hi: int64(hi), Lo: lo}
}

package fixed

import (
	"math/bits"
	"strings"

	"clevis/api"
)

// longest is how many bytes the longest text has, that of -2^127.
const longest = 40

// Text tells a's digits, a minus sign ahead of them, if it is below 0.
func Text(a Wide) string {
	var text [longest]byte
	at := len(text)
	left := sizeOf(a)
	for {
		var digit uint64
		left, digit = left.divide(10)
		at--
		text[at] = byte('0' + digit)
		if left == (size{}) {
			break
		}
	}
	if a.Hi < 0 {
		at--
		text[at] = '-'
	}
	return string(text[at:])
}

// Parse tells the number of which s is the text.
func Parse(s string) (Wide, api.Errno) {
	digits, below := strings.CutPrefix(s, "-")
	if !plain(digits) || below && digits == "0" {
		return Wide{}, api.ErrForm
	}
	n := size{}
	for _, digit := range []byte(digits) {
		// Ten times 2^124 fits no wide number, but ten times less fits a size.
		if n.hi >= 1<<60 {
			return Wide{}, api.ErrOver
		}
		n = n.shift(digit - '0')
	}
	return n.signed(below)
}

// plain tells whether s is digits, without noughts ahead.
func plain(s string) bool {
	for _, b := range []byte(s) {
		if b < '0' || b > '9' {
			return false
		}
	}
	return s == "0" || s != "" && s[0] != '0'
}

// shift tells the size that has the digit behind n's.
func (n size) shift(digit byte) size {
	over, lo := bits.Mul64(n.lo, 10)
	lo, carry := bits.Add64(lo, uint64(digit), 0)
	return size{hi: n.hi*10 + over + carry, lo: lo}
}

package ident

import (
	"iter"

	"clevis/api"
)

const (
	letters = 2  // great letters that an ISIN begins with
	body    = 11 // bytes of an ISIN ahead of its check digit
)

// Isin tells whether s may be an ISIN.
func Isin(s string) api.Errno {
	if len(s) != body+1 || !headed(s[:body]) || !isDigit(s[body]) {
		return api.ErrForm
	}
	if s[body] != check(s[:body]) {
		return api.ErrSum
	}
	return api.OK
}

// Digit tells the check digit of s, an ISIN's first 11 bytes.
func Digit(s string) (byte, api.Errno) {
	if !headed(s) {
		return 0, api.ErrForm
	}
	return check(s), api.OK
}

// Make tells the ISIN of which s is the first 11 bytes.
func Make(s string) (string, api.Errno) {
	digit, e := Digit(s)
	if e != api.OK {
		return "", e
	}
	return s + string(rune(digit)), api.OK
}

// headed tells whether s has the form of an ISIN's first 11 bytes.
func headed(s string) bool {
	if len(s) != body {
		return false
	}
	for i, b := range []byte(s) {
		if !isGreat(b) && (i < letters || !isDigit(b)) {
			return false
		}
	}
	return true
}

// check tells the check digit of s, that must be headed.
func check(s string) byte {
	sum := 0
	doubled := true
	for digit := range digitsBack(s) {
		if doubled {
			digit *= 2
		}
		sum += digit/10 + digit%10
		doubled = !doubled
	}
	return byte('0' + (10-sum%10)%10)
}

// digitsBack gives the digits of s from the last one to the first: which of
// them are doubled is told from the end, and a letter has two.
func digitsBack(s string) iter.Seq[int] {
	return func(yield func(int) bool) {
		for i := len(s) - 1; i >= 0; i-- {
			n := number(s[i])
			if !yield(n % 10) {
				return
			}
			if n >= 10 && !yield(n/10) {
				return
			}
		}
	}
}

// number tells what a great letter or a digit becomes.
func number(b byte) int {
	if isDigit(b) {
		return int(b - '0')
	}
	return int(b-'A') + 10
}

package ident_test

import (
	"strconv"
	"strings"
	"testing"

	"clevis/api"
	"clevis/ident"
)

const great = "ABCDEFGHIJKLMNOPQRSTUVWXYZ"

// traded are ISINs of shares that are traded, with each check digit.
func traded() []string {
	return []string{
		"US0378331005", "GB0002634946", "AU0000XVGZA3", "US5949181045", "DE000BAY0017", "FR0000120271",
		"CH0038863350", "JP3633400001", "NL0010273215", "US88160R1014", "IE00B4BNMY34", "KR7005930003",
		"DE0007164600", "US1729674242", "CH0012032048", "NL0000009538", "GB00B03MLX29", "US38259P5089",
	}
}

// formed tells whether s has the form of an ISIN's first 11 bytes.
func formed(s string) bool {
	if len(s) != 11 {
		return false
	}
	return strings.Trim(s[:2], great) == "" && strings.Trim(s[2:], great+"0123456789") == ""
}

// row is the digits that stand in a row for s.
func row(s string) string {
	var digits strings.Builder
	for _, b := range []byte(s) {
		if at := strings.IndexByte(great, b); at >= 0 {
			digits.WriteString(strconv.Itoa(10 + at))
		} else {
			digits.WriteByte(b)
		}
	}
	return digits.String()
}

// wanted is the check digit of s: the one digit that makes a multiple of 10.
func wanted(s string) byte {
	twice := [10]int{0, 2, 4, 6, 8, 1, 3, 5, 7, 9} // the digits' sum of each doubled digit
	digits := row(s)
	for try := byte('0'); try <= '9'; try++ {
		sum := int(try - '0')
		for i := range len(digits) {
			digit := int(digits[i] - '0')
			if (len(digits)-i)%2 == 1 {
				digit = twice[digit]
			}
			sum += digit
		}
		if sum%10 == 0 {
			return try
		}
	}
	panic("no digit does")
}

// head holds what is told of the first 11 bytes against what must be.
func head(t *testing.T, s string) {
	t.Helper()
	digit, e := ident.Digit(s)
	made, e2 := ident.Make(s)
	if !formed(s) {
		if digit != 0 || e != api.ErrForm || made != "" || e2 != api.ErrForm {
			t.Errorf("%q: digit %d, error %d; made %q, error %d; want ErrForm", s, digit, e, made, e2)
		}
		return
	}
	want := wanted(s)
	if digit != want || e != api.OK || made != s+string([]byte{want}) || e2 != api.OK {
		t.Errorf("%q: digit %d, error %d; made %q, error %d; want %c", s, digit, e, made, e2, want)
	}
}

// whole holds what is told of a whole ISIN against what must be.
func whole(t *testing.T, s string) {
	t.Helper()
	want := api.OK
	switch {
	case len(s) != 12 || !formed(s[:11]) || s[11] < '0' || s[11] > '9':
		want = api.ErrForm
	case s[11] != wanted(s[:11]):
		want = api.ErrSum
	}
	if e := ident.Isin(s); e != want {
		t.Errorf("%q: error %d; want %d", s, e, want)
	}
}

// put is s with b at that place.
func put(s string, at int, b byte) string {
	return s[:at] + string([]byte{b}) + s[at+1:]
}

// P2.1: ISINs that are in use, and each other check digit.
func TestTradedIsins(t *testing.T) {
	var seen [10]int
	for _, s := range traded() {
		seen[s[11]-'0']++
		if digit, e := ident.Digit(s[:11]); digit != s[11] || e != api.OK {
			t.Errorf("%s: digit %c, error %d", s, digit, e)
		}
		if made, e := ident.Make(s[:11]); made != s || e != api.OK {
			t.Errorf("%s: made %s, error %d", s, made, e)
		}
		for digit := byte('0'); digit <= '9'; digit++ {
			want := api.ErrSum
			if digit == s[11] {
				want = api.OK
			}
			if e := ident.Isin(put(s, 11, digit)); e != want {
				t.Errorf("%s with %c: error %d; want %d", s, digit, e, want)
			}
		}
	}
	for digit, n := range seen {
		if n == 0 {
			t.Error("no ISIN here has the check digit", digit)
		}
	}
}

// P2.1: every byte at every place: letters of two digits, small letters, all others.
func TestIsinEachPlace(t *testing.T) {
	for _, s := range append(traded(), "AA0000000000", "ZZZZZZZZZZZ9") {
		for at := range 12 {
			for b := range 256 {
				other := put(s, at, byte(b))
				whole(t, other)
				if at < 11 {
					head(t, other[:11])
				}
			}
		}
	}
}

// P2.1: letters alone, digits alone behind the first two, and both by turns.
func TestIsinLetters(t *testing.T) {
	for _, a := range []byte(great) {
		alone := strings.Repeat(string([]byte{a}), 11)
		head(t, alone)
		for _, b := range []byte(great + "0123456789") {
			turns := string([]byte{a, a, b, a, b, a, b, a, b, a, b})
			head(t, turns)
			for digit := byte('0'); digit <= '9'; digit++ {
				whole(t, turns+string([]byte{digit}))
			}
			for at := 2; at < 11; at++ {
				head(t, put("AA000000000", at, b))
				head(t, put(alone, at, b))
			}
		}
	}
}

// P2.1: texts that are too short or too long.
func TestIsinLength(t *testing.T) {
	long := "US0378331005" + strings.Repeat("0", 30)
	for n := range len(long) + 1 {
		head(t, long[:n])
		whole(t, long[:n])
	}
	for _, s := range []string{
		"", "0", "A", "US", strings.Repeat("A", 10), strings.Repeat("A", 13), strings.Repeat("0", 11), strings.Repeat("0", 12),
		"US037833100", "US03783310055", " US0378331005", "US0378331005 ", "US0378331005\n", "US037833100\u0665", "\u00dcS037833100",
		strings.Repeat("US0378331005", 10000),
	} {
		head(t, s)
		whole(t, s)
	}
	for _, s := range []string{"US03783310", "US0378331005", "US037833100 ", "US03783310 "} {
		if digit, e := ident.Digit(s); digit != 0 || e != api.ErrForm {
			t.Errorf("Digit(%q): %d, error %d", s, digit, e)
		}
	}
}

// P2.1: of an ill form with another check digit the form is told.
func TestIsinFormFirst(t *testing.T) {
	for _, s := range []string{"us0378331006", "U50378331006", "US03783310O", "US037833100A", "US0378331-06", "AAAAAAAAAAAA"} {
		if e := ident.Isin(s); e != api.ErrForm {
			t.Errorf("%q: error %d", s, e)
		}
	}
}

// P1, P2: whatever is handed in, each call ends, and with the same answer again.
func FuzzIsin(f *testing.F) {
	for _, s := range append(traded(), "", "US037833100", "us0378331005", "US0378331005\n") {
		f.Add(s)
	}
	f.Fuzz(func(t *testing.T, s string) {
		for range 2 {
			head(t, s)
			whole(t, s)
		}
	})
}

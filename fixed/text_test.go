package fixed_test

import (
	"math/big"
	"strings"
	"testing"

	"clevis/api"
	"clevis/fixed"
)

// P1.4: a number's text, and the number of that text.
func TestTextAndParse(t *testing.T) {
	l := wides()
	for n := int64(1); n < most/10; n *= 10 { // where a digit more begins
		l = append(l, fixed.Of(n-1), fixed.Of(n), fixed.Of(-n), fixed.Times(n, 1e18), fixed.Times(-n, 1e18))
	}
	for _, a := range l {
		want := whole(a).String()
		if s := fixed.Text(a); s != want {
			t.Errorf("Text(%v): %s; want %s", a, s, want)
		}
		if b, e := fixed.Parse(want); b != a || e != api.OK {
			t.Errorf("Parse(%s): %v, error %d", want, b, e)
		}
	}
	if s := fixed.Text(fixed.Wide{}); s != "0" {
		t.Error("nothing:", s)
	}
	if s := fixed.Text(leastWide); s != "-170141183460469231731687303715884105728" {
		t.Error("the least:", s)
	}
}

// P1.4: what is no text of a whole number: ErrForm, ahead of ErrOver.
func TestParseForm(t *testing.T) {
	great := strings.Repeat("9", 100)
	for _, s := range []string{
		"", "-", "--1", "-0", "00", "01", "-01", "-00", "+1", "+0", " 1", "1 ", "1 2", "1x", "x1", "1-", "1-2",
		"1.0", "1e3", "1_000", "1,000", "0x1", "0b1", "1\n", "\x001", "1\x00", "/", ":", "1/", "1:",
		"\u0661", "\uff11", "\xb1", "\u22121", "nought",
		"0" + great, "-0" + great, great + "x", great + "-", "-" + great + " ", "+" + great,
		strings.Repeat("0", 1000), strings.Repeat("-", 1000),
	} {
		if a, e := fixed.Parse(s); a != (fixed.Wide{}) || e != api.ErrForm {
			t.Errorf("Parse(%q): %v, error %d", s, a, e)
		}
	}
}

// P1.4: texts of numbers that just fit, and that don't.
func TestParseOver(t *testing.T) {
	check := func(n *big.Int) {
		a, e := fixed.Parse(n.String())
		wide(t, "Parse("+n.String()+")", n, a, e)
	}
	for _, near := range []uint{63, 64, 124, 126, 127, 128, 129, 130, 192, 256, 1000} {
		for off := int64(-11); off <= 11; off++ {
			n := new(big.Int).Lsh(big.NewInt(1), near)
			n.Add(n, big.NewInt(off))
			check(n)
			check(new(big.Int).Neg(n))
		}
	}
	ten := big.NewInt(1)
	for range 60 {
		check(ten)
		check(new(big.Int).Sub(ten, big.NewInt(1)))
		check(new(big.Int).Neg(ten))
		ten.Mul(ten, big.NewInt(10))
	}
	for _, s := range []string{strings.Repeat("9", 1000000), "-1" + strings.Repeat("0", 1000000)} {
		if a, e := fixed.Parse(s); a != (fixed.Wide{}) || e != api.ErrOver {
			t.Error("a long one:", a, e)
		}
	}
}

// P2: the same calls have the same answers.
func TestSameAgain(t *testing.T) {
	for _, a := range wides() {
		first := fixed.Text(a)
		b, _ := fixed.Parse(first)
		if again := fixed.Text(a); again != first || b != a {
			t.Errorf("%v: %s, then %s", a, first, again)
		}
	}
}

// P1: whatever is handed in, each call ends, and an error leaves nothing beside it.
func FuzzParse(f *testing.F) {
	for _, s := range []string{"", "0", "-0", "12", "-170141183460469231731687303715884105728"} {
		f.Add(s)
	}
	f.Fuzz(func(t *testing.T, s string) {
		a, e := fixed.Parse(s)
		n, ok := new(big.Int).SetString(s, 10)
		ok = ok && n.String() == s
		switch {
		case !ok && e != api.ErrForm, ok && e == api.ErrForm, e != api.OK && a != (fixed.Wide{}):
			t.Errorf("%q: %v, error %d", s, a, e)
		case ok:
			wide(t, s, n, a, e)
		}
	})
}

// P1: the same of a quotient and of all that is told of two numbers.
func FuzzDivide(f *testing.F) {
	f.Add(int64(least), uint64(0), int64(-1), 3)
	f.Add(int64(0), uint64(7), int64(2), 0)
	f.Fuzz(func(t *testing.T, hi int64, lo uint64, d int64, how int) {
		a := fixed.Wide{Hi: hi, Lo: lo}
		q, e := fixed.Divide(a, d, how)
		if d == 0 || how < 0 || how > 3 {
			if q != (fixed.Wide{}) || e != api.ErrArg {
				t.Error(a, d, how, q, e)
			}
			return
		}
		wide(t, "Divide", rounded(a, d, how), q, e)
	})
}

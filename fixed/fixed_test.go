package fixed_test

import (
	"math"
	"math/big"
	"testing"

	"clevis/api"
	"clevis/fixed"
)

const (
	least = math.MinInt64
	most  = math.MaxInt64
)

var (
	leastWide = fixed.Wide{Hi: least}
	mostWide  = fixed.Wide{Hi: most, Lo: math.MaxUint64}
)

// narrows are the numbers of 64 bits at which something may go wrong.
func narrows() []int64 {
	return []int64{
		0, 1, -1, 2, -2, 3, -3, 5, -5, 7, -7, 9, 10, -10, 1000,
		1 << 31, -1 << 31, 1<<31 - 1, 1 << 32, -1 << 32, 1<<32 - 1,
		3037000499, 3037000500, -3037000500,
		1 << 62, -1 << 62, 1<<62 - 1, 1<<62 + 1, -1<<62 - 1,
		most, most - 1, least, least + 1,
	}
}

// wides are those of 128 bits, and all of narrows.
func wides() []fixed.Wide {
	l := []fixed.Wide{
		leastWide, mostWide,
		{Hi: least, Lo: 1}, {Hi: most, Lo: math.MaxUint64 - 1},
		{Hi: most}, {Hi: 0, Lo: math.MaxUint64}, {Hi: 0, Lo: 1 << 63}, {Hi: 1}, {Hi: 1, Lo: 1},
		{Hi: -1}, {Hi: -1, Lo: 1}, {Hi: -1, Lo: 1<<63 - 1}, {Hi: -2, Lo: math.MaxUint64},
		{Hi: 1 << 62}, {Hi: -1 << 62}, {Hi: 1<<62 - 1, Lo: math.MaxUint64}, {Hi: 1 << 60}, {Hi: -1 << 60},
		{Hi: 12345, Lo: 67890}, {Hi: -12345, Lo: 67890},
	}
	for _, n := range narrows() {
		l = append(l, fixed.Wide{Hi: n >> 63, Lo: uint64(n)})
	}
	return l
}

// whole is a as a number without bounds.
func whole(a fixed.Wide) *big.Int {
	n := new(big.Int).Lsh(big.NewInt(a.Hi), 64)
	return n.Add(n, new(big.Int).SetUint64(a.Lo))
}

// fits tells whether n has a place among numbers of so many bits.
func fits(n *big.Int, size uint) bool {
	end := new(big.Int).Lsh(big.NewInt(1), size-1)
	return n.Cmp(end) < 0 && n.Cmp(end.Neg(end)) >= 0
}

// narrow holds an answer of 64 bits against the number that it must be.
func narrow(t *testing.T, call string, want *big.Int, n int64, e api.Errno) {
	t.Helper()
	if !fits(want, 64) {
		if n != 0 || e != api.ErrOver {
			t.Errorf("%s: %d, error %d; want 0, ErrOver for %s", call, n, e, want)
		}
		return
	}
	if e != api.OK || want.Cmp(big.NewInt(n)) != 0 {
		t.Errorf("%s: %d, error %d; want %s", call, n, e, want)
	}
}

// wide holds an answer of 128 bits against the number that it must be.
func wide(t *testing.T, call string, want *big.Int, a fixed.Wide, e api.Errno) {
	t.Helper()
	if !fits(want, 128) {
		if a != (fixed.Wide{}) || e != api.ErrOver {
			t.Errorf("%s: %s, error %d; want 0, ErrOver for %s", call, whole(a), e, want)
		}
		return
	}
	if e != api.OK || want.Cmp(whole(a)) != 0 {
		t.Errorf("%s: %s, error %d; want %s", call, whole(a), e, want)
	}
}

// P1.1: each sum, difference and product, or ErrOver.
func TestNarrowOfTwo(t *testing.T) {
	for _, a := range narrows() {
		for _, b := range narrows() {
			x, y := big.NewInt(a), big.NewInt(b)
			n, e := fixed.Add(a, b)
			narrow(t, "Add", new(big.Int).Add(x, y), n, e)
			n, e = fixed.Sub(a, b)
			narrow(t, "Sub", new(big.Int).Sub(x, y), n, e)
			n, e = fixed.Mul(a, b)
			narrow(t, "Mul", new(big.Int).Mul(x, y), n, e)
			n, e = fixed.Sum(a, b)
			narrow(t, "Sum", new(big.Int).Add(x, y), n, e)
		}
	}
}

// P1.1: what just fits 64 bits, and what just doesn't.
func TestNarrowEdges(t *testing.T) {
	for i, x := range []struct {
		call       func(a, b int64) (int64, api.Errno)
		a, b, want int64
		e          api.Errno
	}{
		{fixed.Add, most - 1, 1, most, api.OK},
		{fixed.Add, most, 1, 0, api.ErrOver},
		{fixed.Add, least + 1, -1, least, api.OK},
		{fixed.Add, least, -1, 0, api.ErrOver},
		{fixed.Add, least, most, -1, api.OK},
		{fixed.Sub, 0, least, 0, api.ErrOver},
		{fixed.Sub, -1, least, most, api.OK},
		{fixed.Sub, -1, most, least, api.OK},
		{fixed.Sub, -2, most, 0, api.ErrOver},
		{fixed.Mul, least, -1, 0, api.ErrOver},
		{fixed.Mul, -1, least, 0, api.ErrOver},
		{fixed.Mul, 1 << 62, -2, least, api.OK},
		{fixed.Mul, 1 << 62, 2, 0, api.ErrOver},
		{fixed.Mul, 1 << 32, 1 << 32, 0, api.ErrOver},
		{fixed.Mul, least, 0, 0, api.OK},
	} {
		if n, e := x.call(x.a, x.b); n != x.want || e != x.e {
			t.Errorf("%d: %d, %d: %d, error %d; want %d, %d", i, x.a, x.b, n, e, x.want, x.e)
		}
	}
}

// P1.1: of Sum the whole sum must fit, not what is summed on the way there.
func TestSum(t *testing.T) {
	if n, e := fixed.Sum(); n != 0 || e != api.OK {
		t.Error("none:", n, e)
	}
	many := make([]int64, 0, 2003)
	for range 1001 {
		many = append(many, most)
	}
	for range 1001 {
		many = append(many, least)
	}
	for _, l := range [][]int64{
		{7}, {least}, {most, most, least, least}, {most, 1, -1}, {least, -1, 1},
		{most, 1}, {least, -1}, {most, most, most}, {1 << 62, 1 << 62, 1 << 62, 1 << 62},
		{least, least, most, most, 2}, {least, least, most, most, 1}, many, append(many, 2000),
	} {
		want := new(big.Int)
		for _, n := range l {
			want.Add(want, big.NewInt(n))
		}
		n, e := fixed.Sum(l...)
		narrow(t, "Sum", want, n, e)
	}
}

// P1.2: Of tells the same number, and Int tells it again.
func TestOfInt(t *testing.T) {
	for _, n := range narrows() {
		a := fixed.Of(n)
		if whole(a).Cmp(big.NewInt(n)) != 0 {
			t.Errorf("Of(%d): %v", n, a)
		}
	}
	for _, a := range wides() {
		n, e := fixed.Int(a)
		narrow(t, "Int", whole(a), n, e)
	}
}

// P1.2: the product of two always fits.
func TestTimes(t *testing.T) {
	for _, a := range narrows() {
		for _, b := range narrows() {
			want := new(big.Int).Mul(big.NewInt(a), big.NewInt(b))
			wide(t, "Times", want, fixed.Times(a, b), api.OK)
		}
	}
	if a := fixed.Times(least, least); a != (fixed.Wide{Hi: 1 << 62}) {
		t.Error("the greatest product:", a)
	}
	if a := fixed.Times(least, most); a != (fixed.Wide{Hi: -1 << 62, Lo: 1 << 63}) {
		t.Error("the least product:", a)
	}
}

// P1.2: sums, differences, opposites and comparisons of wide numbers.
func TestWideOfTwo(t *testing.T) {
	for _, a := range wides() {
		x := whole(a)
		o, e := fixed.Opposite(a)
		wide(t, "Opposite", new(big.Int).Neg(x), o, e)
		if s := fixed.Sign(a); s != x.Sign() {
			t.Errorf("Sign(%s): %d", x, s)
		}
		for _, b := range wides() {
			y := whole(b)
			n, e := fixed.Plus(a, b)
			wide(t, "Plus", new(big.Int).Add(x, y), n, e)
			n, e = fixed.Minus(a, b)
			wide(t, "Minus", new(big.Int).Sub(x, y), n, e)
			if c := fixed.Compare(a, b); c != x.Cmp(y) {
				t.Errorf("Compare(%s, %s): %d", x, y, c)
			}
		}
	}
}

// P1.2: what just fits 128 bits, and what just doesn't.
func TestWideEdges(t *testing.T) {
	one := fixed.Of(1)
	if a, e := fixed.Plus(fixed.Wide{Hi: most, Lo: math.MaxUint64 - 1}, one); a != mostWide || e != api.OK {
		t.Error("the greatest sum:", a, e)
	}
	if a, e := fixed.Plus(mostWide, one); a != (fixed.Wide{}) || e != api.ErrOver {
		t.Error("above the greatest:", a, e)
	}
	if a, e := fixed.Minus(fixed.Wide{Hi: least, Lo: 1}, one); a != leastWide || e != api.OK {
		t.Error("the least difference:", a, e)
	}
	if a, e := fixed.Minus(leastWide, one); a != (fixed.Wide{}) || e != api.ErrOver {
		t.Error("below the least:", a, e)
	}
	if a, e := fixed.Minus(fixed.Of(-1), leastWide); a != mostWide || e != api.OK {
		t.Error("less the least:", a, e)
	}
	if a, e := fixed.Minus(fixed.Of(0), leastWide); a != (fixed.Wide{}) || e != api.ErrOver {
		t.Error("0 less the least:", a, e)
	}
	if a, e := fixed.Opposite(leastWide); a != (fixed.Wide{}) || e != api.ErrOver {
		t.Error("the least's opposite:", a, e)
	}
	if a, e := fixed.Opposite(mostWide); a != (fixed.Wide{Hi: least, Lo: 1}) || e != api.OK {
		t.Error("the greatest's opposite:", a, e)
	}
}

// P1.2: of Plus the whole sum must fit, not what is summed on the way there.
func TestPlus(t *testing.T) {
	if a, e := fixed.Plus(); a != (fixed.Wide{}) || e != api.OK {
		t.Error("none:", a, e)
	}
	many := make([]fixed.Wide, 0, 2003)
	for range 1001 {
		many = append(many, mostWide)
	}
	for range 1001 {
		many = append(many, leastWide)
	}
	for _, l := range [][]fixed.Wide{
		{mostWide}, {leastWide}, {mostWide, mostWide, leastWide, leastWide},
		{mostWide, fixed.Of(1), fixed.Of(-1)}, {leastWide, fixed.Of(-1), fixed.Of(1)},
		{mostWide, fixed.Of(1)}, {leastWide, fixed.Of(-1)}, {mostWide, mostWide, mostWide},
		{leastWide, leastWide}, {leastWide, leastWide, leastWide, leastWide},
		{{Hi: 1 << 62}, {Hi: 1 << 62}, {Hi: 1 << 62}, {Hi: 1 << 62}},
		many, append(many, fixed.Of(2000)), append(many, fixed.Of(1001), mostWide, fixed.Of(1)),
	} {
		want := new(big.Int)
		for _, a := range l {
			want.Add(want, whole(a))
		}
		a, e := fixed.Plus(l...)
		wide(t, "Plus", want, a, e)
	}
}

// P1.1, P1.2: a list that is handed in stays as it was.
func TestListsStay(t *testing.T) {
	narrow := []int64{3, most, -4}
	fixed.Sum(narrow...)
	if narrow[0] != 3 || narrow[1] != most || narrow[2] != -4 {
		t.Error("Sum:", narrow)
	}
	wide := []fixed.Wide{mostWide, {Hi: -1, Lo: 5}}
	fixed.Plus(wide...)
	if wide[0] != mostWide || wide[1] != (fixed.Wide{Hi: -1, Lo: 5}) {
		t.Error("Plus:", wide)
	}
}

package fixed_test

import (
	"math"
	"math/big"
	"testing"

	"clevis/api"
	"clevis/fixed"
)

// rounded is a divided by d, by the words of the chapter.
func rounded(a fixed.Wide, d int64, how int) *big.Int {
	x, by := whole(a), big.NewInt(d)
	if d < 0 {
		x.Neg(x)
		by.Neg(by)
	}
	floor, rest := new(big.Int).DivMod(x, by, new(big.Int))
	if rest.Sign() == 0 {
		return floor
	}
	ceil := new(big.Int).Add(floor, big.NewInt(1))
	half := rest.Lsh(rest, 1).Cmp(by)
	up := false
	switch how {
	case fixed.Ceil:
		up = true
	case fixed.Zero:
		up = x.Sign() < 0
	case fixed.Even:
		up = half > 0 || half == 0 && floor.Bit(0) == 1
	}
	if up {
		return ceil
	}
	return floor
}

// P1.3: each kind of rounding, with both signs.
func TestDivideKinds(t *testing.T) {
	if fixed.Floor != 0 || fixed.Ceil != 1 || fixed.Zero != 2 || fixed.Even != 3 {
		t.Error("the kinds have other numbers")
	}
	for _, x := range []struct {
		a, d int64
		want [4]int64
	}{
		{7, 2, [4]int64{3, 4, 3, 4}},
		{-7, 2, [4]int64{-4, -3, -3, -4}},
		{7, -2, [4]int64{-4, -3, -3, -4}},
		{-7, -2, [4]int64{3, 4, 3, 4}},
		{5, 2, [4]int64{2, 3, 2, 2}},
		{-5, 2, [4]int64{-3, -2, -2, -2}},
		{1, 2, [4]int64{0, 1, 0, 0}},
		{-1, 2, [4]int64{-1, 0, 0, 0}},
		{1, 3, [4]int64{0, 1, 0, 0}},
		{2, 3, [4]int64{0, 1, 0, 1}},
		{-2, 3, [4]int64{-1, 0, 0, -1}},
		{6, 3, [4]int64{2, 2, 2, 2}},
		{-6, 3, [4]int64{-2, -2, -2, -2}},
		{0, 5, [4]int64{}},
		{0, -5, [4]int64{}},
		{most, least, [4]int64{-1, 0, 0, -1}},
		{1 << 62, least, [4]int64{-1, 0, 0, 0}},
		{-1 << 62, least, [4]int64{0, 1, 0, 0}},
		{1<<62 + 1, least, [4]int64{-1, 0, 0, -1}},
	} {
		for how, want := range x.want {
			if q, e := fixed.Divide(fixed.Of(x.a), x.d, how); q != fixed.Of(want) || e != api.OK {
				t.Errorf("%d by %d, %d: %s, error %d; want %d", x.a, x.d, how, whole(q), e, want)
			}
		}
	}
}

// P1.3: every quotient of the edges, as the chapter's words make it.
func TestDivideAll(t *testing.T) {
	for _, a := range wides() {
		for _, d := range narrows() {
			for how := fixed.Floor; how <= fixed.Even && d != 0; how++ {
				q, e := fixed.Divide(a, d, how)
				wide(t, "Divide", rounded(a, d, how), q, e)
			}
		}
	}
}

// P1.3: divided by 0, or of no kind: ErrArg, ahead of ErrOver.
func TestDivideErrors(t *testing.T) {
	for _, a := range wides() {
		for how := fixed.Floor; how <= fixed.Even; how++ {
			if q, e := fixed.Divide(a, 0, how); q != (fixed.Wide{}) || e != api.ErrArg {
				t.Errorf("%s by 0: %v, error %d", whole(a), q, e)
			}
		}
		for _, how := range []int{-1, 4, 5, math.MinInt, math.MaxInt} {
			for _, d := range []int64{-1, 0, 1} {
				if q, e := fixed.Divide(a, d, how); q != (fixed.Wide{}) || e != api.ErrArg {
					t.Errorf("%s by %d, %d: %v, error %d", whole(a), d, how, q, e)
				}
			}
		}
	}
}

// P1.3: the one quotient that doesn't fit, and those beside it.
func TestDivideEdges(t *testing.T) {
	for how := fixed.Floor; how <= fixed.Even; how++ {
		if q, e := fixed.Divide(leastWide, -1, how); q != (fixed.Wide{}) || e != api.ErrOver {
			t.Error("the least by -1:", how, q, e)
		}
		if q, e := fixed.Divide(leastWide, 1, how); q != leastWide || e != api.OK {
			t.Error("the least by 1:", how, q, e)
		}
		if q, e := fixed.Divide(mostWide, -1, how); q != (fixed.Wide{Hi: least, Lo: 1}) || e != api.OK {
			t.Error("the greatest by -1:", how, q, e)
		}
		if q, e := fixed.Divide(leastWide, least, how); q != (fixed.Wide{Hi: 1}) || e != api.OK {
			t.Error("the least by the least:", how, q, e)
		}
	}
}

package account_test

import (
	"math"
	"math/big"
	"slices"
	"strings"
	"testing"

	"clevis/account"
	"clevis/api"
	"clevis/fixed"
	"clevis/note"
)

const (
	least = math.MinInt64
	most  = math.MaxInt64
	us    = "US0378331005"
	gb    = "GB0002634946"
)

var (
	leastWide = fixed.Wide{Hi: least}
	mostWide  = fixed.Wide{Hi: most, Lo: math.MaxUint64}
)

type (
	holding = account.Holding
	row     = note.Row
)

// of is the row of so many of that name.
func of(name string, n int64) row { return row{Name: name, N: n} }

// with is the holding of that cash and these rows.
func with(cash fixed.Wide, l ...row) holding { return holding{Rows: l, Cash: cash} }

// rows is the holding of these rows, without cash.
func rows(l ...row) holding { return holding{Rows: l} }

// money is the holding of so much cash alone.
func money(n int64) holding { return holding{Cash: fixed.Of(n)} }

// wide is the holding of that cash alone.
func wide(a fixed.Wide) holding { return holding{Cash: a} }

// whole is a as a number without bounds.
func whole(a fixed.Wide) *big.Int {
	n := new(big.Int).Lsh(big.NewInt(a.Hi), 64)
	return n.Add(n, new(big.Int).SetUint64(a.Lo))
}

// fits tells whether n has a place among numbers of so many bits.
func fits(n *big.Int, size uint) bool {
	end := new(big.Int).Lsh(big.NewInt(1), size-1)
	return n.Cmp(end) < 0 && n.Cmp(end.Neg(end)) >= 0
}

// cents is the wide number of n, which fits.
func cents(n *big.Int) fixed.Wide {
	a, _ := fixed.Parse(n.String())
	return a
}

// is tells whether h is want, of whose rows nil and empty are the same.
func is(h, want holding) bool {
	return slices.Equal(h.Rows, want.Rows) && h.Cash == want.Cash
}

// kept is l with rows of their own.
func kept(l []holding) []holding {
	var all []holding
	for _, h := range l {
		all = append(all, with(h.Cash, slices.Clone(h.Rows)...))
	}
	return all
}

// adds holds the sum of l against what it must be, and that l stays as it was.
func adds(t *testing.T, call string, want holding, told api.Errno, l ...holding) {
	t.Helper()
	before := kept(l)
	for again := range 2 {
		h, e := account.Plus(l...)
		if !is(h, want) || e != told {
			t.Errorf("%s, %d: %v, error %d; want %v, %d", call, again, h, e, want, told)
		}
		for i := range l {
			if !is(l[i], before[i]) {
				t.Errorf("%s: %v is changed to %v", call, before[i], l[i])
			}
		}
		for i := range h.Rows { // shared with nobody
			h.Rows[i] = of("changed", 77)
		}
	}
}

// turns holds the opposite of h against what it must be, and that h stays as it was.
func turns(t *testing.T, call string, h, want holding, told api.Errno) {
	t.Helper()
	before := kept([]holding{h})[0]
	for again := range 2 {
		o, e := account.Opposite(h)
		if !is(o, want) || e != told || !is(h, before) {
			t.Errorf("%s, %d: %v, error %d, of %v; want %v, %d", call, again, o, e, h, want, told)
		}
		for i := range o.Rows {
			o.Rows[i] = of("changed", 77)
		}
	}
}

// rightOnes are holdings.
func rightOnes() []holding {
	many := holding{}
	for i := range 100 {
		many.Rows = append(many.Rows, of(strings.Repeat("x", i+1), int64(i-200)))
	}
	return []holding{
		{}, {Rows: []row{}}, money(1), money(-1), wide(leastWide), wide(mostWide),
		rows(of(us, 1)), rows(of(us, -1)), rows(of(us, least)), rows(of(us, most)),
		rows(of(gb, 5), of(us, -5)), with(fixed.Of(-3), of(gb, 1), of(us, 2)),
		rows(of("x", 1)), rows(of(" ", 1)), rows(of("\x00", 1)), rows(of("\xff\xfe", 1)),
		rows(of("US0378331006", 1)), rows(of(strings.Repeat("long", 5000), 1)),
		rows(of("A", 1), of("a", 1)), rows(of("a", 1), of("aa", 1), of("b", 1)),
		rows(of("z", 1), of("\u00e9", 1)), rows(of("\x7f", 1), of("\x80", 1)), many,
	}
}

// wrongOnes are none.
func wrongOnes() []holding {
	return []holding{
		rows(of(us, 0)), rows(of("", 1)), rows(row{}),
		rows(of(gb, 1), of(us, 0)), rows(of(gb, 0), of(us, 1)), rows(of("", 1), of(us, 1)),
		rows(of(us, 1), of(gb, 1)), rows(of(us, 1), of(us, 1)), rows(of(us, 1), of(us, -1)),
		rows(of(us, 1), of("", 1)), rows(of("a", 1), of("b", 1), of("a", 1)),
		rows(of("a", 1), of("c", 1), of("b", 1)), rows(of("a", 1), of("b", 0), of("c", 1)),
		rows(of("a", 1), of("A", 1)), rows(of("aa", 1), of("a", 1)),
		with(fixed.Of(1), of(us, 0)), with(leastWide, of(us, 1), of(us, 1)),
	}
}

// P17.1: whether something is a holding.
func TestRight(t *testing.T) {
	for _, h := range rightOnes() {
		if !account.Right(h) {
			t.Errorf("%v is none", h)
		}
	}
	for _, h := range wrongOnes() {
		if account.Right(h) {
			t.Errorf("%v is one", h)
		}
	}
}

// P17.1: sums, by ISINs.
func TestPlus(t *testing.T) {
	adds(t, "none", holding{}, api.OK)
	adds(t, "one of nothing", holding{}, api.OK, holding{})
	adds(t, "cash", money(2), api.OK, money(5), money(-3))
	adds(t, "two ISINs", rows(of(gb, 2), of(us, 1)), api.OK, rows(of(us, 1)), rows(of(gb, 2)))
	adds(t, "the same ISIN", rows(of(us, 3)), api.OK, rows(of(us, 1)), rows(of(us, 2)))
	adds(t, "what sums to 0 goes", rows(of("a", 1), of("c", 1)), api.OK,
		rows(of("a", 1), of("b", 4), of("c", 1)), rows(of("b", -4)))
	adds(t, "nothing is left", holding{}, api.OK,
		with(fixed.Of(3), of(gb, 1), of(us, 2)), with(fixed.Of(-3), of(gb, -1), of(us, -2)))
	adds(t, "cash is left", money(1), api.OK, with(fixed.Of(3), of(us, 2)), with(fixed.Of(-2), of(us, -2)))
	adds(t, "it goes, and comes again", rows(of(us, 5)), api.OK, rows(of(us, 1)), rows(of(us, -1)), rows(of(us, 5)))
	adds(t, "names of any kind", rows(of("\x00", 1), of("A", 5), of("a", 2), of("\xff", 1)), api.OK,
		rows(of("a", 2), of("\xff", 1)), rows(of("\x00", 1), of("A", 5)))
	for _, h := range rightOnes() {
		adds(t, "alone", h, api.OK, h)
		adds(t, "and nothing", h, api.OK, holding{}, h, holding{Rows: []row{}})
	}
}

// P17.1: what just fits, and what just doesn't; the whole sum must fit, not what is summed on the way there.
func TestPlusEdges(t *testing.T) {
	adds(t, "the greatest", rows(of(us, most)), api.OK, rows(of(us, most-1)), rows(of(us, 1)))
	adds(t, "above it", holding{}, api.ErrOver, rows(of(us, most)), rows(of(us, 1)))
	adds(t, "the least", rows(of(us, least)), api.OK, rows(of(us, least+1)), rows(of(us, -1)))
	adds(t, "below it", holding{}, api.ErrOver, rows(of(us, least)), rows(of(us, -1)))
	adds(t, "above it on the way", rows(of(us, most)), api.OK, rows(of(us, most)), rows(of(us, most)), rows(of(us, -most)))
	adds(t, "below it on the way", rows(of(us, least)), api.OK, rows(of(us, least)), rows(of(us, least)), rows(of(us, most)), rows(of(us, 1)))
	adds(t, "round to 0", holding{}, api.ErrOver, rows(of(us, least)), rows(of(us, least)))
	adds(t, "one of several", holding{}, api.ErrOver,
		with(fixed.Of(1), of("a", 1), of("b", most), of("c", 1)), rows(of("b", 1)))
	adds(t, "the last of several", holding{}, api.ErrOver, rows(of("a", 1), of("b", least)), rows(of("a", 1), of("b", -1)))
	adds(t, "the greatest cash", wide(mostWide), api.OK, wide(fixed.Wide{Hi: most, Lo: math.MaxUint64 - 1}), money(1))
	adds(t, "above that", holding{}, api.ErrOver, wide(mostWide), money(1))
	adds(t, "the least cash", wide(leastWide), api.OK, wide(fixed.Wide{Hi: least, Lo: 1}), money(-1))
	adds(t, "below that", holding{}, api.ErrOver, wide(leastWide), money(-1))
	adds(t, "above that on the way", wide(mostWide), api.OK, wide(mostWide), money(1), money(-1))
	adds(t, "below that on the way", wide(leastWide), api.OK, wide(leastWide), money(-1), money(1))
	adds(t, "cash round to 0", holding{}, api.ErrOver, wide(leastWide), wide(leastWide))
	adds(t, "rows beside cash that doesn't fit", holding{}, api.ErrOver, with(mostWide, of(us, 1)), money(1))
	adds(t, "cash of more than 64 bits", wide(fixed.Wide{Lo: 1 << 63}), api.OK, money(most), money(1))
}

// P17.1: of a sum of what isn't a holding: ErrArg, ahead of ErrOver.
func TestPlusErrors(t *testing.T) {
	for _, wrong := range wrongOnes() {
		adds(t, "alone", holding{}, api.ErrArg, wrong)
		adds(t, "the first one", holding{}, api.ErrArg, wrong, rows(of(us, 1)))
		adds(t, "the last one", holding{}, api.ErrArg, rows(of(us, 1)), holding{}, wrong)
		adds(t, "behind what doesn't fit", holding{}, api.ErrArg, rows(of(us, most)), rows(of(us, most)), wrong)
		adds(t, "behind cash that doesn't fit", holding{}, api.ErrArg, wide(mostWide), wide(mostWide), wrong)
		adds(t, "ahead of its opposite", holding{}, api.ErrArg, wrong, wrong)
	}
}

// P17.1: 0 less a holding.
func TestOpposite(t *testing.T) {
	turns(t, "nothing", holding{}, holding{}, api.OK)
	turns(t, "cash", money(-7), money(7), api.OK)
	turns(t, "rows and cash", with(fixed.Of(3), of(gb, -1), of(us, 2)), with(fixed.Of(-3), of(gb, 1), of(us, -2)), api.OK)
	turns(t, "the greatest", rows(of(us, most)), rows(of(us, -most)), api.OK)
	turns(t, "beside the least", rows(of(us, -most)), rows(of(us, most)), api.OK)
	turns(t, "the least", rows(of(us, least)), holding{}, api.ErrOver)
	turns(t, "the least of several", with(fixed.Of(1), of("a", 1), of("b", least), of("c", 1)), holding{}, api.ErrOver)
	turns(t, "the greatest cash", wide(mostWide), wide(fixed.Wide{Hi: least, Lo: 1}), api.OK)
	turns(t, "cash beside the least", wide(fixed.Wide{Hi: least, Lo: 1}), wide(mostWide), api.OK)
	turns(t, "the least cash", wide(leastWide), holding{}, api.ErrOver)
	turns(t, "rows beside the least cash", with(leastWide, of(us, 1)), holding{}, api.ErrOver)
	for _, wrong := range wrongOnes() {
		turns(t, "what is none", wrong, holding{}, api.ErrArg)
	}
	turns(t, "what is none, with the least", with(leastWide, of(us, least), of(gb, 1)), holding{}, api.ErrArg)
	turns(t, "the least, and a 0", rows(of(gb, least), of(us, 0)), holding{}, api.ErrArg)
}

// P17.1: a holding and its opposite are nothing, and twice the opposite is the holding.
func TestOppositeBack(t *testing.T) {
	for _, h := range rightOnes() {
		o, e := account.Opposite(h)
		if e == api.ErrOver {
			continue
		}
		adds(t, "with its opposite", holding{}, api.OK, h, o)
		turns(t, "back", o, h, api.OK)
	}
}

// P17.1: what is the same, whether it is a holding or not.
func TestSame(t *testing.T) {
	all := append(rightOnes()[1:], wrongOnes()...) // the first two are the same
	for i, a := range all {
		for k, b := range kept(all) {
			if account.Same(a, b) != (i == k) {
				t.Errorf("%v and %v: %t", a, b, i != k)
			}
		}
	}
	for i, x := range []struct {
		a, b holding
		same bool
	}{
		{holding{}, rows([]row{}...), true},
		{holding{}, holding{Rows: []row{}}, true},
		{holding{}, rows(of(us, 0)), false},
		{rows(of(us, 1)), rows(of(us, 2)), false},
		{rows(of(us, 1)), rows(of(gb, 1)), false},
		{rows(of(gb, 1), of(us, 1)), rows(of(gb, 1)), false},
		{rows(of(gb, 1), of(us, 1)), rows(of(us, 1), of(gb, 1)), false},
		{with(fixed.Of(1), of(us, 1)), with(fixed.Of(1), of(us, 1)), true},
		{with(fixed.Of(1), of(us, 1)), with(fixed.Of(-1), of(us, 1)), false},
		{wide(fixed.Wide{Hi: 1}), wide(fixed.Wide{Lo: 1}), false},
		{wide(fixed.Wide{Hi: 1}), wide(fixed.Wide{}), false},
	} {
		if account.Same(x.a, x.b) != x.same || account.Same(x.b, x.a) != x.same {
			t.Errorf("%d: %v and %v: %t", i, x.a, x.b, !x.same)
		}
	}
}

// P17.1: what is nothing.
func TestNought(t *testing.T) {
	if !account.Nought(holding{}) || !account.Nought(holding{Rows: []row{}}) {
		t.Error("nothing isn't nothing")
	}
	for _, h := range append(rightOnes()[2:], wrongOnes()...) {
		if account.Nought(h) {
			t.Errorf("%v is nothing", h)
		}
	}
	for _, h := range []holding{wide(fixed.Wide{Hi: 1}), wide(fixed.Wide{Lo: 1}), wide(fixed.Wide{Hi: -1}), wide(fixed.Wide{Lo: 1 << 63})} {
		if account.Nought(h) {
			t.Errorf("%v is nothing", h)
		}
	}
}

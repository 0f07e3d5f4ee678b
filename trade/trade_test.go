package trade_test

import (
	"math"
	"slices"
	"strings"
	"testing"

	"clevis/api"
	"clevis/fixed"
	"clevis/trade"
)

const (
	apple = "US0378331005"
	bae   = "GB0002634946"
	most  = math.MaxInt64
	least = math.MinInt64
	over  = 1 << 31 // the least quantity, and the least price, that is too great
)

// right is a right trade, changed by each of turns.
func right(turns ...func(t *trade.Trade)) trade.Trade {
	t := trade.Trade{ID: 7, Buyer: "alfa", Seller: "beta", Isin: apple, Qty: 10, Price: 250}
	for _, turn := range turns {
		turn(&t)
	}
	return t
}

func id(n int64) func(t *trade.Trade)      { return func(t *trade.Trade) { t.ID = n } }
func buyer(s string) func(t *trade.Trade)  { return func(t *trade.Trade) { t.Buyer = s } }
func seller(s string) func(t *trade.Trade) { return func(t *trade.Trade) { t.Seller = s } }
func isin(s string) func(t *trade.Trade)   { return func(t *trade.Trade) { t.Isin = s } }
func qty(n int64) func(t *trade.Trade)     { return func(t *trade.Trade) { t.Qty = n } }
func price(n int64) func(t *trade.Trade)   { return func(t *trade.Trade) { t.Price = n } }

// checked is a trade, and what Check must tell of it.
type checked struct {
	t    trade.Trade
	want api.Errno
}

// singles are trades that are right, or have one mistake.
func singles() []checked {
	l := []checked{{trade.Trade{}, api.ErrArg}, {right(), api.OK}}
	add := func(want api.Errno, turn func(t *trade.Trade)) {
		l = append(l, checked{right(turn), want})
	}
	for n, want := range map[int64]api.Errno{0: api.ErrArg, 1: api.OK, -1: api.ErrArg, -7: api.ErrArg, least: api.ErrArg, 2: api.OK, over: api.OK, most: api.OK} {
		add(want, id(n))
	}
	for s, want := range map[string]api.Errno{
		"a": api.OK, "abcdefgh": api.OK, "a0": api.OK, "z9z9z9z9": api.OK, "alf": api.OK, "alfaa": api.OK, "betaa": api.OK,
		"": api.ErrForm, "Alfa": api.ErrForm, "abcdefghi": api.ErrForm, "1a": api.ErrForm, "a-b": api.ErrForm, " alfa": api.ErrForm, "alfa ": api.ErrForm, "alfa\n": api.ErrForm,
		"\xff": api.ErrForm, "\u00e4": api.ErrForm, apple: api.ErrForm, strings.Repeat("a", 13): api.ErrForm, strings.Repeat("a", 100000): api.ErrForm,
	} {
		add(want, buyer(s))
		add(want, seller(s))
	}
	add(api.ErrTwice, buyer("beta"))
	add(api.ErrTwice, seller("alfa"))
	for s, want := range map[string]api.Errno{
		apple: api.OK, bae: api.OK, "US0378331006": api.ErrSum, "US0378331000": api.ErrSum, "GB0002634940": api.ErrSum,
		"": api.ErrForm, "US037833100": api.ErrForm, apple + "5": api.ErrForm, "us0378331005": api.ErrForm, "US037833100A": api.ErrForm, "alfa": api.ErrForm, "US03783310 5": api.ErrForm, strings.Repeat("A", 100000): api.ErrForm,
	} {
		add(want, isin(s))
	}
	for n, want := range map[int64]api.Errno{0: api.ErrLong, 1: api.OK, 2: api.OK, over - 1: api.OK, over: api.ErrLong, over + 1: api.ErrLong, 1 << 32: api.ErrLong, 1<<32 + 1: api.ErrLong, -1: api.ErrLong, most: api.ErrLong, least: api.ErrLong} {
		add(want, qty(n))
	}
	for n, want := range map[int64]api.Errno{0: api.OK, 1: api.OK, over - 1: api.OK, over: api.ErrLong, over + 1: api.ErrLong, 1 << 32: api.ErrLong, 1<<32 + 1: api.ErrLong, -1: api.ErrLong, most: api.ErrLong, least: api.ErrLong} {
		add(want, price(n))
	}
	return l
}

// mixed are all trades whose parts are each one of a few: most of them have several mistakes, of which the one that is named first must be told.
func mixed() []checked {
	var l []checked
	for _, n := range []int64{1, 0, -1} {
		for _, b := range []string{"alfa", "beta", "A", ""} {
			for _, s := range []string{"beta", "alfa", "B", ""} {
				for _, i := range []string{bae, "GB0002634940", "gb"} {
					for _, q := range []int64{1, 0, -1, over} {
						for _, p := range []int64{0, -1, over} {
							x := trade.Trade{ID: n, Buyer: b, Seller: s, Isin: i, Qty: q, Price: p}
							l = append(l, checked{x, ranked(x)})
						}
					}
				}
			}
		}
	}
	return l
}

// ranked is what Check must tell of a trade of mixed.
func ranked(t trade.Trade) api.Errno {
	errors := []struct {
		wrong bool
		e     api.Errno
	}{
		{t.ID != 1, api.ErrArg},
		{t.Buyer != "alfa" && t.Buyer != "beta", api.ErrForm},
		{t.Seller != "alfa" && t.Seller != "beta", api.ErrForm},
		{t.Isin == "gb", api.ErrForm},
		{t.Isin == "GB0002634940", api.ErrSum},
		{t.Buyer == t.Seller, api.ErrTwice},
		{t.Qty != 1, api.ErrLong},
		{t.Price != 0, api.ErrLong},
	}
	for _, x := range errors {
		if x.wrong {
			return x.e
		}
	}
	return api.OK
}

// P7.1: right trades, and those with one mistake, at each edge.
func TestCheck(t *testing.T) {
	for _, x := range singles() {
		for range 2 {
			if e := trade.Check(x.t); e != x.want {
				t.Errorf("%.99v: error %d; want %d", x.t, e, x.want)
			}
		}
	}
}

// P7.1: of several mistakes the one that is named first is told.
func TestCheckOrder(t *testing.T) {
	for _, x := range mixed() {
		if e := trade.Check(x.t); e != x.want {
			t.Errorf("%v: error %d; want %d", x.t, e, x.want)
		}
	}
	for _, x := range []checked{
		{right(id(0), buyer("A")), api.ErrArg}, {right(id(0), qty(0)), api.ErrArg}, {right(id(0), seller("alfa")), api.ErrArg},
		{right(seller("B"), isin("US0378331006")), api.ErrForm}, {right(buyer("A"), seller("A")), api.ErrForm}, {right(buyer("A"), qty(0)), api.ErrForm},
		{right(isin("US0378331006"), seller("alfa")), api.ErrSum}, {right(isin(""), seller("alfa")), api.ErrForm}, {right(isin("US0378331006"), price(-1)), api.ErrSum},
		{right(seller("alfa"), qty(0)), api.ErrTwice}, {right(seller("alfa"), price(over)), api.ErrTwice}, {right(qty(0), price(-1)), api.ErrLong},
	} {
		if e := trade.Check(x.t); e != x.want {
			t.Errorf("%v: error %d; want %d", x.t, e, x.want)
		}
	}
}

// P7.1: the quantity times the price, whether the trade is right or not.
func TestValue(t *testing.T) {
	for _, x := range []struct {
		qty, price int64
		want       string
	}{
		{10, 250, "2500"}, {1, 0, "0"}, {0, 250, "0"}, {1, 1, "1"}, {over - 1, over - 1, "4611686014132420609"}, {over, over, "4611686018427387904"},
		{-10, 250, "-2500"}, {10, -250, "-2500"}, {-10, -250, "2500"}, {-1, 0, "0"},
		{most, most, "85070591730234615847396907784232501249"}, {least, least, "85070591730234615865843651857942052864"},
		{least, most, "-85070591730234615856620279821087277056"}, {most, least, "-85070591730234615856620279821087277056"}, {least, -1, "9223372036854775808"}, {least, 1, "-9223372036854775808"},
	} {
		if got := fixed.Text(trade.Value(right(qty(x.qty), price(x.price)))); got != x.want {
			t.Errorf("%d at %d: %s; want %s", x.qty, x.price, got, x.want)
		}
	}
	if v := trade.Value(trade.Trade{Qty: 3, Price: 4}); v != fixed.Of(12) {
		t.Error("without names:", v)
	}
	if v := trade.Value(trade.Trade{ID: 9, Isin: apple}); v != (fixed.Wide{}) {
		t.Error("without numbers:", v)
	}
}

// totals holds what is told of all of l against what must be: the empty text, if it doesn't fit.
func totals(t *testing.T, want string, l ...trade.Trade) {
	t.Helper()
	before := slices.Clone(l)
	for range 2 {
		v, e := trade.Total(l...)
		if want == "" {
			if e != api.ErrOver || v != (fixed.Wide{}) {
				t.Errorf("of %d trades: %s, error %d; want error %d", len(l), fixed.Text(v), e, api.ErrOver)
			}
			continue
		}
		if e != api.OK || fixed.Text(v) != want {
			t.Errorf("of %d trades: %s, error %d; want %s", len(l), fixed.Text(v), e, want)
		}
	}
	if !slices.Equal(l, before) {
		t.Errorf("%v were changed: %v", before, l)
	}
}

// P7.1: the sum of no trade's value, of one's, of some; trades needn't be right.
func TestTotal(t *testing.T) {
	totals(t, "0")
	totals(t, "0", []trade.Trade{}...)
	totals(t, "0", trade.Trade{})
	totals(t, "2500", right())
	totals(t, "5000", right(), right())
	totals(t, "2537", right(), right(qty(3), price(4)), right(qty(5), price(5)))
	totals(t, "-5", right(), right(qty(-1), price(2505)))
	totals(t, "0", right(), right(qty(-10)))
	totals(t, "9223372028264841218", right(qty(over-1), price(over-1)), right(qty(over-1), price(over-1)))
	totals(t, "13835058042397261827", slices.Repeat([]trade.Trade{right(qty(over-1), price(over-1))}, 3)...)
	totals(t, "461168601413242060900000", slices.Repeat([]trade.Trade{right(qty(over-1), price(over-1))}, 100000)...)
}

// P7.1: a sum that is too great, or too small, by one; on the way there it may be.
func TestTotalEdges(t *testing.T) {
	half := right(qty(least), price(least))  // 2^126
	below := right(qty(least), price(1<<62)) // -2^125
	one, less := right(qty(1), price(1)), right(qty(1), price(-1))
	top := "170141183460469231731687303715884105727"
	bottom := "-170141183460469231731687303715884105728"
	totals(t, "", half, half)
	totals(t, "", half, half, one)
	totals(t, top, half, half, less)
	totals(t, top, half, less, half)
	totals(t, top, less, half, half)
	totals(t, "", half, half, less, one)
	totals(t, top, half, half, one, less, less)
	totals(t, bottom, below, below, below, below)
	totals(t, "", below, below, below, below, less)
	totals(t, "", less, below, below, below, below)
	totals(t, bottom, below, below, below, below, less, one)
	totals(t, "0", half, half, half, half, below, below, below, below, below, below, below, below)
	totals(t, "", slices.Repeat([]trade.Trade{half}, 3)...)
	// 2^128: all that is looked at in 128 bits is nought.
	totals(t, "", slices.Repeat([]trade.Trade{half}, 4)...)
	totals(t, "", slices.Repeat([]trade.Trade{below}, 8)...)
	totals(t, "", slices.Repeat([]trade.Trade{half}, 1000)...)
}

// rising are trades of which each is ahead of those behind it.
func rising() []trade.Trade {
	at := func(n int64, b, s, i string, q, p int64) trade.Trade {
		return trade.Trade{ID: n, Buyer: b, Seller: s, Isin: i, Qty: q, Price: p}
	}
	return []trade.Trade{
		at(least, "z", "z", "Z", most, most),
		at(-1, "z", "z", "Z", most, most),
		at(0, "", "", "", least, least),
		at(0, "", "", "", least, most),
		at(0, "", "", "", 0, 0),
		at(0, "", "", "A", 0, 0),
		at(0, "", "a", "", 0, 0),
		at(0, "a", "", "", 0, 0),
		at(1, "a", "b", apple, 10, 250),
		at(1, "a", "b", apple, 10, 251),
		at(1, "a", "b", apple, 11, 250),
		at(1, "a", "b", apple, 100, 9),
		at(1, "a", "b", "US0378331006", 1, 1),
		at(1, "a", "c", bae, 1, 1),
		at(1, "a0", "a", bae, 1, 1),
		at(1, "aa", "a", bae, 1, 1),
		at(1, "b", "a", bae, 1, 1),
		at(1, "b", "a", bae, 2, 0),
		at(1, "b", "a1", bae, 1, 0),
		at(1, "b", "aa", "", -5, -5),
		at(1, "b", "aa", "", -5, 0),
		at(1, "b", "aa", "", 0, -5),
		at(1, "\xff", "", "", 0, 0),
		at(2, "", "", "", -1, -1),
		at(10, "", "", "", -1, -1),
		at(most, "", "", "", least, least),
	}
}

// P7.1: by number, buyer, seller, ISIN, quantity, price: any two, both ways round.
func TestCompare(t *testing.T) {
	l := rising()
	for i, a := range l {
		for j, b := range l {
			want := 0
			if i < j {
				want = -1
			} else if i > j {
				want = 1
			}
			for range 2 {
				if got := trade.Compare(a, b); got != want {
					t.Errorf("%v and %v: %d; want %d", a, b, got, want)
				}
			}
		}
	}
}

// P7.1: trades that differ in one part alone, in two that say otherwise, and in all parts behind one.
func TestCompareParts(t *testing.T) {
	up := []func(t *trade.Trade){id(8), buyer("alfb"), seller("betb"), isin("US0378331006"), qty(11), price(251)}
	down := []func(t *trade.Trade){id(6), buyer("alf"), seller("bet"), isin(bae), qty(9), price(249)}
	holds := func(a, b trade.Trade, want int) {
		t.Helper()
		if one, other := trade.Compare(a, b), trade.Compare(b, a); one != want || other != -want {
			t.Errorf("%v and %v: %d, %d; want %d, %d", a, b, one, other, want, -want)
		}
	}
	holds(right(), right(), 0)
	for i := range up {
		holds(right(), right(up[i]), -1)
		holds(right(), right(down[i]), 1)
		for j := i + 1; j < len(up); j++ {
			holds(right(), right(up[i], down[j]), -1)
			holds(right(), right(down[i], up[j]), 1)
		}
		holds(right(), right(append([]func(t *trade.Trade){up[i]}, down[i+1:]...)...), -1)
		holds(right(), right(append([]func(t *trade.Trade){down[i]}, up[i+1:]...)...), 1)
	}
}

// P7.1: the two numbers are as far apart as may be: no difference goes round.
func TestCompareFar(t *testing.T) {
	for _, part := range []func(n int64) func(t *trade.Trade){id, qty, price} {
		if one, other := trade.Compare(right(part(least)), right(part(most))), trade.Compare(right(part(most)), right(part(least))); one != -1 || other != 1 {
			t.Error(one, other)
		}
	}
	// Names are held against each other by bytes.
	for _, part := range []func(s string) func(t *trade.Trade){buyer, seller, isin} {
		for _, x := range [][2]string{{"", "\x00"}, {"A", "a"}, {"a", "ab"}, {"ab", "b"}, {"a9", "aa"}, {"z", "\u00e4"}, {"\u00e4", "\xff"}, {"a10", "a9"}} {
			if one, other := trade.Compare(right(part(x[0])), right(part(x[1]))), trade.Compare(right(part(x[1])), right(part(x[0]))); one != -1 || other != 1 {
				t.Errorf("%q: %d, %d", x, one, other)
			}
		}
	}
}

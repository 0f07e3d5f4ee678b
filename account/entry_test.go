package account_test

import (
	"slices"
	"testing"

	"clevis/account"
	"clevis/fixed"
)

type entry = account.Entry

// shares is an entry of so many of an ISIN.
func shares(name, isin string, n int64) entry { return entry{Account: name, Isin: isin, Qty: n} }

// cash is an entry of so much cash.
func cash(name string, n int64) entry { return entry{Account: name, Cash: fixed.Of(n)} }

// wideCash is an entry of that cash.
func wideCash(name string, a fixed.Wide) entry { return entry{Account: name, Cash: a} }

// trade is what a buys of b: two entries that balance.
func trade(a, b, isin string, n, value int64) []entry {
	return []entry{{a, isin, n, fixed.Of(-value)}, {b, isin, -n, fixed.Of(value)}}
}

// times is l so many times.
func times(n int, l ...entry) []entry {
	return slices.Repeat(l, n)
}

// balanced are lists of entries that balance.
func balanced() [][]entry {
	return [][]entry{
		nil, {}, {{}}, {shares("x", us, 0)}, trade("x", "y", us, 10, 50), trade("x", "x", us, 10, 50), trade("", "y", us, -10, 50),
		{shares("x", us, 3), shares("y", us, -1), shares("z", us, -2)},
		{shares("x", us, 3), shares("y", gb, 4), shares("y", us, -3), shares("x", gb, -4)},
		{shares("x", "no ISIN", 3), shares("y", "no ISIN", -3)},
		{cash("x", 3), cash("y", -1), cash("z", -2)},
		{{"x", us, 0, fixed.Of(5)}, cash("y", -5)},
		{{"x", us, 5, fixed.Of(5)}, shares("y", us, -5), cash("z", -5)},
		{shares("x", us, most), shares("y", us, -most)},
		{shares("x", us, least), shares("y", us, most), shares("z", us, 1)},
		{shares("x", us, most), shares("x", us, most), shares("y", us, -most), shares("y", us, -most)},
		{shares("x", us, least), shares("x", us, least), shares("y", us, most), shares("y", us, most), shares("y", us, 2)},
		{wideCash("x", mostWide), wideCash("y", fixed.Wide{Hi: least, Lo: 1})},
		{wideCash("x", leastWide), wideCash("y", mostWide), cash("z", 1)},
		{wideCash("x", mostWide), wideCash("x", mostWide), wideCash("y", leastWide), wideCash("y", leastWide), cash("z", 2)},
		append(times(999, shares("x", us, most), wideCash("x", leastWide)), times(999, shares("y", us, -most), wideCash("y", mostWide), cash("y", 1))...),
	}
}

// loose are lists that don't.
func loose() [][]entry {
	return [][]entry{
		{shares("x", us, 10)}, {cash("x", 10)}, trade("x", "y", us, 10, 50)[:1], trade("x", "y", us, 10, 50)[1:],
		{shares("x", us, 10), shares("y", us, -9)},
		{shares("x", us, 10), shares("y", gb, -10)},
		{shares("x", us, 10), shares("y", us, -10), shares("y", gb, 1)},
		{shares("x", us, 10), shares("y", us, -10), cash("y", 1)},
		{shares("x", "US", 1), shares("y", "us", -1)},
		{cash("x", 1), cash("x", 1)}, {cash("x", 10), cash("y", -9)},
		{cash("x", 10), shares("y", us, -10)},
		{{"x", us, 1, fixed.Of(5)}, {"y", us, -1, fixed.Of(5)}},
		{{"x", us, 1, fixed.Of(5)}, {"y", us, 1, fixed.Of(-5)}},
		{shares("x", us, least), shares("y", us, least)}, // round to 0, if they went round
		{shares("x", us, most), shares("y", us, most), shares("z", us, 2)},
		{wideCash("x", leastWide), wideCash("y", leastWide)},
		{wideCash("x", mostWide), wideCash("y", mostWide), cash("z", 2)},
		{wideCash("x", fixed.Wide{Hi: 1}), cash("y", 1), cash("y", -1)},
		{wideCash("x", fixed.Wide{Hi: 1}), cash("y", least), cash("y", least), shares("z", us, 1)},
		append(times(4, wideCash("x", fixed.Wide{Hi: 1 << 62})), shares("y", us, 0)),
		times(4, shares("x", us, 1<<62)), times(2, shares("x", us, most), shares("y", us, 1)),
	}
}

// P17.2: entries that balance, and entries that don't, in whole sums, however great.
func TestBalance(t *testing.T) {
	for i, l := range balanced() {
		before := slices.Clone(l)
		if !account.Balance(l...) || !account.Balance(l...) || !slices.Equal(l, before) {
			t.Errorf("%d: %.200v doesn't balance", i, l)
		}
	}
	for i, l := range loose() {
		before := slices.Clone(l)
		if account.Balance(l...) || account.Balance(l...) || !slices.Equal(l, before) {
			t.Errorf("%d: %.200v balances", i, l)
		}
	}
}

// P17.2: whatever the order is.
func TestBalanceTurned(t *testing.T) {
	for i, l := range balanced() {
		l = slices.Clone(l)
		slices.Reverse(l)
		if !account.Balance(l...) {
			t.Errorf("%d: %.200v doesn't balance", i, l)
		}
	}
	for i, l := range loose() {
		l = slices.Clone(l)
		slices.Reverse(l)
		if account.Balance(l...) {
			t.Errorf("%d: %.200v balances", i, l)
		}
	}
}

// P17.2: of the ISIN "" quantities aren't counted, but cash is.
func TestBalanceCashAlone(t *testing.T) {
	for _, n := range []int64{1, -1, most, least} {
		if !account.Balance(shares("x", "", n)) || !account.Balance(append(trade("x", "y", us, 1, 2), shares("z", "", n))...) {
			t.Error("a quantity of no ISIN is counted:", n)
		}
		if account.Balance(entry{"x", "", 0, fixed.Of(n)}) || account.Balance(entry{"x", "", -n, fixed.Of(n)}) {
			t.Error("cash of no ISIN isn't counted:", n)
		}
		if account.Balance(shares("x", "", -n), shares("y", us, n)) {
			t.Error("a quantity of no ISIN is counted as one of another:", n)
		}
	}
}

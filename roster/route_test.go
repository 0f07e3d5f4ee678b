package roster_test

import (
	"math"
	"strings"
	"testing"

	"clevis/api"
	"clevis/roster"
	"clevis/trade"
)

// right is a right trade of two homes, changed by each of turns.
func right(turns ...func(t *trade.Trade)) trade.Trade {
	t := trade.Trade{ID: 7, Buyer: "alfa", Seller: "beta", Isin: apple, Qty: 10, Price: 250}
	for _, turn := range turns {
		turn(&t)
	}
	return t
}

func id(n int64) func(t *trade.Trade)      { return func(t *trade.Trade) { t.ID = n } }
func buyer(s string) func(t *trade.Trade)  { return func(t *trade.Trade) { t.Buyer = s } }
func seller(s string) func(t *trade.Trade) { return func(t *trade.Trade) { t.Seller = s } }
func isin(s string) func(t *trade.Trade)   { return func(t *trade.Trade) { t.Isin = s } }
func qty(n int64) func(t *trade.Trade)     { return func(t *trade.Trade) { t.Qty = n } }
func price(n int64) func(t *trade.Trade)   { return func(t *trade.Trade) { t.Price = n } }

// routes holds what Route and Local tell of x against what must be, twice.
func routes(t *testing.T, r *roster.Roster, x trade.Trade, buyer, seller int, e api.Errno) {
	t.Helper()
	local := e == api.OK && buyer == seller
	for range 2 {
		if b, s, got := r.Route(x); b != buyer || s != seller || got != e {
			t.Errorf("Route(%.99v): %d, %d, error %d; want %d, %d, error %d", x, b, s, got, buyer, seller, e)
		}
		if got := r.Local(x); got != local {
			t.Errorf("Local(%.99v): %v; want %v", x, got, local)
		}
	}
}

// market is a roster of three CCPs, each with two members at least, and two instruments.
func market(t *testing.T) *roster.Roster {
	t.Helper()
	return made(t, 3, []string{apple, bae}, people()...)
}

// P8.3: right trades between every two members, so between every two homes and inside each one.
func TestRoute(t *testing.T) {
	r := market(t)
	met := map[[2]int]int{}
	for _, b := range people() {
		for _, s := range people() {
			if b.Name == s.Name {
				continue
			}
			for _, i := range []string{apple, bae} {
				routes(t, r, right(buyer(b.Name), seller(s.Name), isin(i)), b.Home, s.Home, api.OK)
			}
			met[[2]int{b.Home, s.Home}]++
		}
	}
	if len(met) != 9 {
		t.Error("not every two homes were met:", met)
	}
}

// P8.3: what a right trade's number, quantity and price are, its route hangs on none of them.
func TestRouteEdges(t *testing.T) {
	r := market(t)
	for _, x := range []trade.Trade{
		right(id(1)), right(id(math.MaxInt64)), right(qty(1)), right(qty(api.MaxQty - 1)), right(price(0)), right(price(api.MaxPrice - 1)),
		right(id(math.MaxInt64), qty(api.MaxQty-1), price(api.MaxPrice-1)),
	} {
		routes(t, r, x, 0, 1, api.OK)
		x.Buyer = "aaron"
		x.Seller = "alfa"
		routes(t, r, x, 0, 0, api.OK)
	}
}

// P8.3: one CCP alone: each trade is inside it.
func TestLocalOne(t *testing.T) {
	r := made(t, 1, []string{apple}, member("alfa", 0), member("beta", 0))
	routes(t, r, right(), 0, 0, api.OK)
	routes(t, r, right(buyer("beta"), seller("alfa")), 0, 0, api.OK)
	routes(t, r, right(seller("gamma")), 0, 0, api.ErrName)
}

// wrong are turns by which a trade isn't right, whoever trades what, and what Check tells then.
func wrong() []struct {
	turn func(t *trade.Trade)
	want api.Errno
} {
	return []struct {
		turn func(t *trade.Trade)
		want api.Errno
	}{
		{id(0), api.ErrArg}, {id(-1), api.ErrArg}, {id(math.MinInt64), api.ErrArg},
		{buyer(""), api.ErrForm}, {buyer("Alfa"), api.ErrForm}, {buyer("abcdefghi"), api.ErrForm}, {buyer(strings.Repeat("a", 100000)), api.ErrForm},
		{seller(""), api.ErrForm}, {seller("1"), api.ErrForm}, {seller(apple), api.ErrForm},
		{isin(""), api.ErrForm}, {isin("alfa"), api.ErrForm}, {isin("us0378331005"), api.ErrForm}, {isin("US0378331006"), api.ErrSum},
		{func(t *trade.Trade) { t.Seller = t.Buyer }, api.ErrTwice},
		{qty(0), api.ErrLong}, {qty(-1), api.ErrLong}, {qty(api.MaxQty), api.ErrLong},
		{price(-1), api.ErrLong}, {price(api.MaxPrice), api.ErrLong},
	}
}

// P8.3: of trades that aren't right Check's error is told: of those between two homes, inside one, and those of strangers too.
func TestRouteWrong(t *testing.T) {
	r := market(t)
	for _, x := range wrong() {
		for _, other := range []func(t *trade.Trade){
			func(*trade.Trade) {}, buyer("aaron"), seller("aaron"), buyer("gamma"), seller("gamma"), isin(bayer),
			func(t *trade.Trade) { t.Buyer, t.Seller, t.Isin = "gamma", "omega", bayer },
		} {
			routes(t, r, right(other, x.turn), 0, 0, x.want)
		}
	}
	routes(t, r, trade.Trade{}, 0, 0, api.ErrArg)
	// Two mistakes of a trade: the one that Check names first.
	routes(t, r, right(id(0), qty(0)), 0, 0, api.ErrArg)
	routes(t, r, right(buyer("A"), isin("US0378331006")), 0, 0, api.ErrForm)
	routes(t, r, right(isin("US0378331006"), seller("alfa")), 0, 0, api.ErrSum)
	routes(t, r, right(buyer("gamma"), seller("gamma"), price(-1)), 0, 0, api.ErrTwice)
}

// P8.3: a buyer or a seller that is no member, an ISIN that isn't one of these, each alone, two of them and all.
func TestRouteStrangers(t *testing.T) {
	r := market(t)
	for _, name := range []string{"gamma", "a", "al", "alfb", "alfaa", "aa", "z", "a0", "b1", "zzzzzzzz"} {
		routes(t, r, right(buyer(name)), 0, 0, api.ErrName)
		routes(t, r, right(seller(name)), 0, 0, api.ErrName)
		routes(t, r, right(buyer(name), seller("omega")), 0, 0, api.ErrName)
		routes(t, r, right(buyer("delta"), seller(name)), 0, 0, api.ErrName)
		routes(t, r, right(buyer(name), isin(bayer)), 0, 0, api.ErrName)
		routes(t, r, right(seller(name), isin(bayer)), 0, 0, api.ErrName)
		routes(t, r, right(buyer(name), seller("omega"), isin(bayer)), 0, 0, api.ErrName)
	}
	for _, s := range []string{bayer, "KR7005930003", "US5949181045"} {
		routes(t, r, right(isin(s)), 0, 0, api.ErrName)
		routes(t, r, right(isin(s), buyer("delta")), 0, 0, api.ErrName)
		routes(t, r, right(isin(s), buyer("delta"), seller("a1")), 0, 0, api.ErrName)
	}
	// A roster without instruments, and one without members.
	routes(t, made(t, 3, nil, people()...), right(), 0, 0, api.ErrName)
	routes(t, made(t, 3, []string{apple}), right(), 0, 0, api.ErrName)
}

// P8.3, P8.4: a roster tells the same routes, whatever was asked and told meanwhile.
func TestRouteKeeps(t *testing.T) {
	r := market(t)
	for range 3 {
		routes(t, r, right(), 0, 1, api.OK)
		routes(t, r, right(buyer("gamma")), 0, 0, api.ErrName)
		routes(t, r, right(qty(0)), 0, 0, api.ErrLong)
		holds(t, r, 3, []string{apple, bae}, people())
	}
}

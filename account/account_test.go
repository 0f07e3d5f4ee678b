package account_test

import (
	"maps"
	"math/big"
	"slices"
	"strconv"
	"testing"

	"clevis/account"
	"clevis/api"
	"clevis/fixed"
)

// sheet is what one account must hold, without bounds.
type sheet struct {
	cash *big.Int
	rows map[string]*big.Int
}

// plain is what accounts must be.
type plain map[string]sheet

// copied is p with numbers of its own.
func (p plain) copied() plain {
	c := plain{}
	for name, s := range p {
		c[name] = sheet{new(big.Int).Set(s.cash), map[string]*big.Int{}}
		for isin, n := range s.rows {
			c[name].rows[isin] = new(big.Int).Set(n)
		}
	}
	return c
}

// add adds x, whatever it is.
func (p plain) add(x entry) {
	s, has := p[x.Account]
	if !has {
		s = sheet{new(big.Int), map[string]*big.Int{}}
		p[x.Account] = s
	}
	s.cash.Add(s.cash, whole(x.Cash))
	if s.rows[x.Isin] == nil {
		s.rows[x.Isin] = new(big.Int)
	}
	s.rows[x.Isin].Add(s.rows[x.Isin], big.NewInt(x.Qty))
}

// fits tells whether all of p does.
func (p plain) fits() bool {
	for _, s := range p {
		for _, n := range s.rows {
			if !fits(n, 64) {
				return false
			}
		}
		if !fits(s.cash, 128) {
			return false
		}
	}
	return true
}

// balanced tells whether all of p together is nothing.
func (p plain) balanced() bool {
	sum := plain{}
	for _, s := range p {
		for isin, n := range s.rows {
			if sum[isin].cash == nil {
				sum[isin] = sheet{cash: new(big.Int)}
			}
			sum[isin].cash.Add(sum[isin].cash, n)
		}
		if sum[""].cash == nil {
			sum[""] = sheet{cash: new(big.Int)}
		}
		sum[""].cash.Add(sum[""].cash, s.cash)
	}
	for _, s := range sum {
		if s.cash.Sign() != 0 {
			return false
		}
	}
	return true
}

// holding is what that account must hold.
func (p plain) holding(name string) holding {
	var h holding
	s, has := p[name]
	if !has {
		return h
	}
	for _, isin := range slices.Sorted(maps.Keys(s.rows)) {
		if n := s.rows[isin]; isin != "" && n.Sign() != 0 {
			h.Rows = append(h.Rows, of(isin, n.Int64()))
		}
	}
	h.Cash = cents(s.cash)
	return h
}

// post is p behind l, and what must be told of that.
func (p plain) post(l []entry) (plain, api.Errno) {
	alone, behind := plain{}, p.copied()
	for _, x := range l {
		if x.Isin == "" && x.Qty != 0 {
			return p, api.ErrArg
		}
		alone.add(x)
		behind.add(x)
	}
	if !alone.balanced() {
		return p, api.ErrArg
	}
	if !behind.fits() {
		return p, api.ErrOver
	}
	return behind, api.OK
}

// holds holds all that a tells against what it must be, twice, and changes what was told.
func holds(t *testing.T, call string, a *account.Accounts, p plain) {
	t.Helper()
	want := slices.Sorted(maps.Keys(p))
	for range 2 {
		names := a.Names()
		if !slices.Equal(names, want) {
			t.Errorf("%s: Names: %.200q; want %.200q", call, names, want)
		}
		for i := range names {
			names[i] = "changed"
		}
		for _, name := range append(slices.Clone(want), "none of them", "") {
			h := a.Get(name)
			if !is(h, p.holding(name)) || !account.Right(h) {
				t.Errorf("%s: Get(%.99q): %v; want %v", call, name, h, p.holding(name))
			}
			for i := range h.Rows {
				h.Rows[i] = of("changed", 77)
			}
		}
		if h, e := a.Total(); !is(h, holding{}) || e != api.OK {
			t.Errorf("%s: Total: %v, error %d", call, h, e)
		}
	}
}

// posts posts l, and holds what is told and what a is then against what they must be; that is the answer.
func posts(t *testing.T, call string, a *account.Accounts, p plain, l ...entry) plain {
	t.Helper()
	behind, want := p.post(l)
	before := slices.Clone(l)
	if e := a.Post(l...); e != want {
		t.Errorf("%s: Post(%.200v): error %d; want %d", call, l, e, want)
	}
	if !slices.Equal(l, before) {
		t.Errorf("%s: %v is changed to %v", call, before, l)
	}
	for i := range l { // kept by nobody
		l[i] = entry{"changed", "changed", 77, fixed.Of(77)}
	}
	holds(t, call, a, behind)
	return behind
}

// P17.2, P17.3: the chapter's example, and what a trade and one more leave.
func TestPost(t *testing.T) {
	a, p := &account.Accounts{}, plain{}
	holds(t, "new", a, p)
	p = posts(t, "a trade", a, p, trade("m:alfa", "m:beta", us, 10, 50)...)
	if h := a.Get("m:alfa"); !is(h, with(fixed.Of(-50), of(us, 10))) {
		t.Error("alfa:", h)
	}
	if h := a.Get("m:beta"); !is(h, with(fixed.Of(50), of(us, -10))) {
		t.Error("beta:", h)
	}
	p = posts(t, "half of it", a, p, trade("m:alfa", "m:beta", us, 10, 50)[:1]...)
	p = posts(t, "one more", a, p, trade("m:beta", "c:B", gb, 3, 7)...)
	p = posts(t, "and back", a, p, trade("m:beta", "m:alfa", us, 10, 44)...)
	if h := a.Get("m:alfa"); !is(h, money(-6)) {
		t.Error("alfa, behind it:", h)
	}
	p = posts(t, "none", a, p)
	posts(t, "cash", a, p, cash("m:alfa", 6), cash("m:beta", -6))
	if l := a.Names(); !slices.Equal(l, []string{"c:B", "m:alfa", "m:beta"}) {
		t.Error("Names:", l)
	}
}

// P17.2: each list that balances, and each that doesn't, ahead of others and behind them.
func TestPostAll(t *testing.T) {
	for _, l := range append(balanced(), loose()...) {
		a, p := &account.Accounts{}, plain{}
		p = posts(t, "alone", a, p, slices.Clone(l)...)
		p = posts(t, "again", a, p, slices.Clone(l)...)
		p = posts(t, "a trade", a, p, trade("x", "new", us, 1, 1)...)
		posts(t, "a third time", a, p, slices.Clone(l)...)
		twice := append(slices.Clone(l), l...)
		posts(t, "twice at once", &account.Accounts{}, plain{}, twice...)
	}
}

// P17.2: a quantity of no ISIN: ErrArg, wherever it stands, and whatever is beside it.
func TestPostNoIsin(t *testing.T) {
	for _, n := range []int64{1, -1, most, least} {
		for i, l := range [][]entry{
			{shares("x", "", n)},
			{shares("x", "", n), shares("y", "", -n)},
			append(trade("x", "y", us, 1, 2), shares("z", "", n)),
			append([]entry{shares("z", "", n)}, trade("x", "y", us, 1, 2)...),
			{{"x", "", n, fixed.Of(5)}, cash("y", -5)},
			{shares("x", "", n), shares("y", us, -n)},
			{shares("x", us, most), shares("y", us, -most), shares("z", "", n)}, // ahead of ErrOver
			{wideCash("x", leastWide), wideCash("y", mostWide), cash("z", 1), shares("z", "", n)},
		} {
			a, p := &account.Accounts{}, plain{}
			p = posts(t, "begin", a, p, shares("x", us, 5), shares("w", us, -5), cash("x", -5), cash("y", 5))
			if _, e := p.post(l); e != api.ErrArg {
				t.Fatalf("%d: error %d must be told", i, e)
			}
			posts(t, "a quantity of no ISIN", a, p, l...)
		}
	}
	posts(t, "none of no ISIN", &account.Accounts{}, plain{}, entry{}, entry{Account: "x"}, cash("y", 0))
}

// P17.2: what an account would hold behind all of them just fits, or just doesn't; what doesn't fit on the way there may be.
func TestPostEdges(t *testing.T) {
	for i, x := range []struct {
		begin, l []entry
		e        api.Errno
	}{
		{trade("x", "y", us, most-1, 0), trade("x", "y", us, 1, 0), api.OK},
		{trade("x", "y", us, most, 0), trade("x", "z", us, 1, 0), api.ErrOver},
		{trade("x", "y", us, most, 0), trade("y", "z", us, -1, 0), api.OK},      // y: the least
		{trade("x", "y", us, most, 0), trade("y", "z", us, -2, 0), api.ErrOver}, // and below it
		{trade("x", "y", us, most, 0), append(trade("x", "z", us, 1, 0), trade("x", "z", us, -1, 0)...), api.OK},
		{trade("x", "y", us, most, 0), append(trade("x", "z", us, most, 0), trade("x", "z", us, -most, 0)...), api.OK},
		{trade("x", "y", us, most, 0), append(trade("x", "z", us, -1, 0), trade("x", "z", us, 2, 0)...), api.ErrOver},
		{trade("x", "y", us, most, 0), []entry{shares("x", us, least), shares("x", us, -1), shares("z", us, most), shares("z", us, 2)}, api.ErrOver},
		{trade("x", "y", us, most, 0), []entry{shares("x", us, least), shares("x", us, -1), shares("z", us, most), shares("w", us, 2)}, api.OK},
		{nil, []entry{shares("x", us, least), shares("y", us, most), shares("z", us, 1)}, api.OK},
		{nil, []entry{shares("x", us, least), shares("x", us, -1), shares("y", us, most), shares("z", us, 2)}, api.ErrOver},
		{nil, []entry{shares("x", us, least), shares("x", us, least), shares("y", us, most), shares("z", us, most), shares("w", us, 2)}, api.ErrOver},
		{[]entry{wideCash("x", mostWide), wideCash("y", fixed.Wide{Hi: least, Lo: 1})}, []entry{cash("y", -1), cash("z", 1)}, api.OK},
		{[]entry{wideCash("x", mostWide), wideCash("y", fixed.Wide{Hi: least, Lo: 1})}, []entry{cash("y", -2), cash("z", 2)}, api.ErrOver},
		{[]entry{wideCash("x", mostWide), wideCash("y", fixed.Wide{Hi: least, Lo: 1})}, []entry{cash("x", 1), cash("z", -1)}, api.ErrOver},
		{[]entry{wideCash("x", mostWide), wideCash("y", fixed.Wide{Hi: least, Lo: 1})}, []entry{cash("x", 1), cash("z", -1), cash("x", -1), cash("z", 1)}, api.OK},
		{[]entry{wideCash("x", mostWide), wideCash("y", fixed.Wide{Hi: least, Lo: 1})}, []entry{wideCash("x", mostWide), wideCash("z", leastWide), cash("z", 1), cash("x", -1), cash("w", 1), wideCash("x", fixed.Wide{Hi: least, Lo: 1}), wideCash("v", mostWide)}, api.OK},
	} {
		a, p := &account.Accounts{}, plain{}
		p = posts(t, "begin", a, p, x.begin...)
		if _, e := p.post(x.l); e != x.e {
			t.Fatalf("%d: error %d must be told; want %d", i, e, x.e)
		}
		posts(t, "at the edge, "+strconv.Itoa(i), a, p, x.l...)
	}
}

// P17.2: if one account's holding doesn't fit, nothing is added to any, wherever that one stands among them.
func TestPostNothing(t *testing.T) {
	for _, full := range []string{"a", "m", "z"} {
		a, p := &account.Accounts{}, plain{}
		p = posts(t, "begin", a, p, shares(full, us, most), shares("other", us, -most), shares("b", gb, 4), shares("c", gb, -4))
		var l []entry
		for _, name := range []string{"new", "b", "m", "z", "c", "a"} {
			l = append(l, shares(name, us, 1), shares(name, gb, 2), cash(name, 3))
		}
		l = append(l, shares("last", us, -6), shares("last", gb, -12), cash("last", -18))
		if _, e := p.post(l); e != api.ErrOver {
			t.Fatalf("error %d must be told", e)
		}
		posts(t, "one is full", a, p, l...)
	}
}

// P17.3: what accounts hold, whose names are any texts.
func TestNames(t *testing.T) {
	a, p := &account.Accounts{}, plain{}
	p = posts(t, "no name", a, p, trade("", "\x00", us, 1, 1)...)
	p = posts(t, "names of any kind", a, p, trade("\xff", "Z", us, 1, 1)...)
	p = posts(t, "names of any kind", a, p, trade("a", "aa", "\xfe", 1, 1)...)
	p = posts(t, "an account with itself", a, p, trade("self", "self", us, 1, 1)...)
	p = posts(t, "nothing at all", a, p, entry{Account: "nothing"}, entry{Account: "shares", Isin: us})
	if l := a.Names(); !slices.Equal(l, []string{"", "\x00", "Z", "a", "aa", "nothing", "self", "shares", "\xff"}) {
		t.Errorf("Names: %q", l)
	}
	for _, l := range loose() {
		posts(t, "what doesn't balance", a, p, l...)
	}
}

// P17.3: many accounts and ISINs, in one posting and one by one.
func TestMany(t *testing.T) {
	var all []entry
	a, p := &account.Accounts{}, plain{}
	for i := range 60 {
		l := trade("a"+strconv.Itoa(i*7%30), "b"+strconv.Itoa(i%11), "isin"+strconv.Itoa(i*5%13), int64(i+1), int64(1000*i))
		all = append(all, l...)
		p = posts(t, "one by one", a, p, l...)
	}
	posts(t, "in one", &account.Accounts{}, plain{}, slices.Clone(all)...)
	b := &account.Accounts{}
	for i := range 5000 {
		all = append(all, trade("m"+strconv.Itoa(i*7919%5000), "c", us, int64(i), 1)...)
	}
	if e := b.Post(all...); e != api.OK || len(b.Names()) != 5000+30+11+1 {
		t.Errorf("5000: error %d, %d names", e, len(b.Names()))
	}
}

// P17.3: a copy is one of its own.
func TestCopy(t *testing.T) {
	a, p := &account.Accounts{}, plain{}
	holds(t, "a copy of none", a.Copy(), p)
	p = posts(t, "begin", a, p, trade("x", "y", us, 10, 50)...)
	p = posts(t, "begin", a, p, trade("x", "w", gb, 1, 2)...)
	b, q := a.Copy(), p
	holds(t, "the copy", b, q)
	p = posts(t, "the first, behind it", a, p, trade("x", "a", us, 1, 1)...)
	holds(t, "the copy, behind it", b, q)
	q = posts(t, "the copy, for itself", b, q, trade("x", "z", gb, 5, 5)...)
	q = posts(t, "the copy, once more", b, q, trade("y", "x", us, 10, 50)...)
	holds(t, "the first, behind that", a, p)
	c := b.Copy()
	posts(t, "what is wrong", c, q, cash("x", 1))
	holds(t, "a copy of the copy", c, q)
	p = posts(t, "the first, again", a, p, trade("x", "y", us, 10, 50)...)
	holds(t, "the last one", c, q)
	holds(t, "the first one", a, p)
}

// P17.4: a nil Accounts is empty, whatever is asked.
func TestNil(t *testing.T) {
	var a *account.Accounts
	for _, l := range append(balanced(), append(loose(), []entry{shares("x", "", 1)})...) {
		if e := a.Post(l...); e != api.ErrState {
			t.Errorf("Post(%.200v): error %d", l, e)
		}
	}
	holds(t, "nil", a, plain{})
	b := a.Copy()
	if b == nil {
		t.Fatal("a copy of nil is nil")
	}
	posts(t, "a copy of nil", b, plain{}, trade("x", "y", us, 1, 2)...)
	holds(t, "nil, behind it", a, plain{})
}

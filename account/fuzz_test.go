package account_test

import (
	"math/big"
	"math/rand"
	"slices"
	"testing"

	"clevis/account"
	"clevis/api"
	"clevis/fixed"
)

// quantities are those at which something may go wrong.
func quantities() []int64 {
	return []int64{1, -1, 2, -2, 5, -5, 10, -10, most, -most, least, most - 1, 1 << 62, -1 << 62, 0, 0}
}

// amounts are those of cash.
func amounts() []fixed.Wide {
	l := []fixed.Wide{leastWide, mostWide, {Hi: least, Lo: 1}, {Hi: 1 << 62}, {Hi: -1 << 62}, {Hi: 1}, {Hi: -1}, {Lo: 1 << 63}}
	for _, n := range []int64{0, 0, 1, -1, 5, -5, most, least} {
		l = append(l, fixed.Of(n))
	}
	return l
}

// entryOf is the entry that three bytes tell.
func entryOf(who, what, much byte) entry {
	names, isins := []string{"", "x", "y", "m:alfa"}, []string{"", "", us, us, gb, "no ISIN"}
	x := entry{Account: names[who%4], Isin: isins[int(what)%6], Cash: amounts()[much%16]}
	if x.Isin != "" || who >= 250 {
		x.Qty = quantities()[much/16]
	}
	return x
}

// evened is l and what makes it balance, if that can be told: some quantities, and cash, of one more account.
func evened(l []entry, to string) []entry {
	for _, isin := range []string{us, gb, "no ISIN"} {
		var of []int64
		for _, x := range l {
			if x.Isin == isin {
				of = append(of, x.Qty)
			}
		}
		n, _ := fixed.Sum(of...)
		n, _ = fixed.Sub(0, n)
		l = append(l, shares(to, isin, n))
	}
	var of []fixed.Wide
	for _, x := range l {
		of = append(of, x.Cash)
	}
	c, _ := fixed.Plus(of...)
	c, _ = fixed.Opposite(c)
	return append(l, wideCash(to, c))
}

// play posts so many entries as a byte says, again and again, and holds all that is told against what must be.
func play(t *testing.T, b []byte) {
	a, p := &account.Accounts{}, plain{}
	for len(b) > 0 {
		how, n := b[0], int(b[0]/8)%4
		b = b[1:]
		var l []entry
		for ; n > 0 && len(b) > 2; n-- {
			l = append(l, entryOf(b[0], b[1], b[2]))
			b = b[3:]
		}
		if how%8 > 0 {
			l = evened(l, []string{"x", "y", "z"}[how%3])
		}
		alone := plain{}
		for _, x := range l {
			if x.Isin == "" {
				x.Qty = 0
			}
			alone.add(x)
		}
		if account.Balance(l...) != alone.balanced() {
			t.Errorf("Balance(%v): %t", l, !alone.balanced())
		}
		c := a.Copy()
		behind := posts(t, "a step", a, p, l...)
		holds(t, "the copy from ahead of it", c, p)
		p = behind
	}
}

// P17.2, P17.3, P17.4, P2: many postings in a row; the seed is fixed, so that they are the same each time.
func TestSteps(t *testing.T) {
	chance := rand.New(rand.NewSource(1))
	for range 600 {
		b := make([]byte, chance.Intn(200))
		chance.Read(b)
		play(t, b)
	}
}

// P1, P17.2, P17.3, P17.4: whatever is posted, each call ends, and tells what it must.
func FuzzSteps(f *testing.F) {
	f.Add([]byte{})
	f.Add([]byte{9, 1, 2, 0x15, 9, 2, 4, 0x9a, 8, 1, 2, 3})
	f.Add([]byte{17, 1, 2, 0x8f, 2, 2, 0x8f, 17, 1, 2, 0x8f, 1, 2, 0x9f, 8, 255, 0, 0x11})
	f.Fuzz(func(t *testing.T, b []byte) {
		play(t, b[:min(len(b), 200)])
	})
}

// holdingOf is what bytes tell: most of the time a holding.
func holdingOf(b []byte) holding {
	names := []string{"", "a", "b", "c", us, gb}
	h := holding{}
	for _, x := range b {
		switch {
		case x < 16:
			h.Cash = amounts()[x]
		default:
			h.Rows = append(h.Rows, of(names[x%6], quantities()[x/16]))
		}
	}
	if len(b)%4 > 0 {
		slices.SortFunc(h.Rows, func(a, b row) int { return slices.Compare([]byte(a.Name), []byte(b.Name)) })
		h.Rows = slices.CompactFunc(h.Rows, func(a, b row) bool { return a.Name == b.Name })
		h.Rows = slices.DeleteFunc(h.Rows, func(r row) bool { return r.N == 0 || r.Name == "" })
	}
	return h
}

// sum is the sum of l by the words of the chapter.
func sum(l []holding) (holding, api.Errno) {
	p := plain{"": sheet{new(big.Int), map[string]*big.Int{}}}
	for _, h := range l {
		if !isHolding(h) {
			return holding{}, api.ErrArg
		}
		p.add(wideCash("", h.Cash))
		for _, r := range h.Rows {
			p.add(shares("", r.Name, r.N))
		}
	}
	if !p.fits() {
		return holding{}, api.ErrOver
	}
	return p.holding(""), api.OK
}

// isHolding tells whether h is one, by the words of the chapter.
func isHolding(h holding) bool {
	last := ""
	for _, r := range h.Rows {
		if r.Name <= last || r.N == 0 { // of the first one: the empty name
			return false
		}
		last = r.Name
	}
	return true
}

// opposite is 0 less h, by the words of the chapter.
func opposite(h holding) (holding, api.Errno) {
	if !isHolding(h) {
		return holding{}, api.ErrArg
	}
	less := holding{}
	for _, r := range h.Rows {
		if r.N == least {
			return holding{}, api.ErrOver
		}
		less.Rows = append(less.Rows, of(r.Name, -r.N))
	}
	n := whole(h.Cash)
	if !fits(n.Neg(n), 128) {
		return holding{}, api.ErrOver
	}
	less.Cash = cents(n)
	return less, api.OK
}

// weigh holds all that is told of the holdings of b, which 255 parts, against what must be.
func weigh(t *testing.T, b []byte) {
	var l []holding
	for _, part := range slices.Collect(parts(b)) {
		l = append(l, holdingOf(part))
	}
	want, e := sum(l)
	adds(t, "by chance", want, e, l...)
	for i, h := range l {
		if account.Right(h) != isHolding(h) {
			t.Errorf("Right(%v): %t", h, !isHolding(h))
		}
		less, e := opposite(h)
		turns(t, "by chance", h, less, e)
		if account.Nought(h) != is(h, holding{}) || !account.Same(h, kept(l)[i]) || account.Same(h, l[0]) != is(h, l[0]) {
			t.Errorf("Nought(%v): %t; Same(%v): %t", h, account.Nought(h), l[0], account.Same(h, l[0]))
		}
	}
}

// parts gives what stands in b between bytes of 255.
func parts(b []byte) func(func([]byte) bool) {
	return func(yield func([]byte) bool) {
		for {
			at := slices.Index(b, 255)
			if at < 0 {
				yield(b)
				return
			}
			if !yield(b[:at]) {
				return
			}
			b = b[at+1:]
		}
	}
}

// P17.1, P2: many holdings; the seed is fixed, so that they are the same each time.
func TestHoldings(t *testing.T) {
	chance := rand.New(rand.NewSource(2))
	for range 5000 {
		b := make([]byte, chance.Intn(30))
		chance.Read(b)
		for i := range b {
			if chance.Intn(5) == 0 {
				b[i] = 255
			}
		}
		weigh(t, b)
	}
}

// P1, P17.1: whatever the holdings are, each call ends, and tells what it must.
func FuzzHoldings(f *testing.F) {
	f.Add([]byte{})
	f.Add([]byte{0x11, 0, 255, 0x21, 1})
	f.Add([]byte{0x81, 0x82, 1, 255, 0x91, 255, 0xa1, 2})
	f.Fuzz(func(t *testing.T, b []byte) {
		weigh(t, b[:min(len(b), 100)])
	})
}

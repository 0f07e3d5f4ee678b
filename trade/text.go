package trade

import (
	"strconv"
	"strings"

	"clevis/api"
	"clevis/fixed"
)

const (
	blank  = " "
	pieces = 6 // of a trade's text
)

// Text tells t's parts, a blank between any two.
func Text(t Trade) string {
	return strings.Join([]string{decimal(t.ID), t.Buyer, t.Seller, t.Isin, decimal(t.Qty), decimal(t.Price)}, blank)
}

// Parse tells the right trade of which s is the text.
func Parse(s string) (Trade, api.Errno) {
	// One piece more than a trade has is enough to see that there are too many.
	l := strings.SplitN(s, blank, pieces+1)
	if len(l) != pieces {
		return Trade{}, api.ErrForm
	}
	first := api.OK
	number := func(piece string) int64 {
		n, e := parsed(piece)
		if first == api.OK {
			first = e
		}
		return n
	}
	// The names are copied: a trade that is kept must not keep all of s.
	t := Trade{
		ID:     number(l[0]),
		Buyer:  strings.Clone(l[1]),
		Seller: strings.Clone(l[2]),
		Isin:   strings.Clone(l[3]),
		Qty:    number(l[4]),
		Price:  number(l[5]),
	}
	if first == api.OK {
		first = Check(t)
	}
	if first != api.OK {
		return Trade{}, first
	}
	return t, api.OK
}

// decimal tells n to the base 10.
func decimal(n int64) string {
	return strconv.FormatInt(n, 10)
}

// parsed tells the number of 64 bits of which s is the text.
func parsed(s string) (int64, api.Errno) {
	wide, e := fixed.Parse(s)
	if e != api.OK {
		return 0, e
	}
	return fixed.Int(wide)
}

package account

import (
	"strings"

	"clevis/api"
	"clevis/fixed"
	"clevis/note"
)

// Entry is what is added to an account: a quantity of an ISIN, and cash; of
// the ISIN "" cash alone.
type Entry struct {
	Account, Isin string
	Qty           int64
	Cash          fixed.Wide
}

// Balance tells whether l sums to nothing.
func Balance(l ...Entry) bool {
	var all []Holding
	for _, x := range l {
		all = append(all, x.holding())
	}
	// A sum that doesn't fit is none that is 0.
	sum, e := Plus(all...)
	return e == api.OK && Nought(sum)
}

// holding tells what x adds; a quantity of the ISIN "" isn't counted.
func (x Entry) holding() Holding {
	h := Holding{Cash: x.Cash}
	if x.Isin != "" && x.Qty != 0 {
		h.Rows = []note.Row{{Name: x.Isin, N: x.Qty}}
	}
	return h
}

// own tells x with texts of its own: accounts must not keep a whole text of
// which a name is a piece.
func (x Entry) own() Entry {
	x.Account, x.Isin = strings.Clone(x.Account), strings.Clone(x.Isin)
	return x
}

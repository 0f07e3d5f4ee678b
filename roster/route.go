package roster

import (
	"clevis/api"
	"clevis/trade"
)

// Route tells the buyer's home and the seller's.
func (r *Roster) Route(t trade.Trade) (int, int, api.Errno) {
	if e := trade.Check(t); e != api.OK {
		return 0, 0, e
	}
	buyer, noBuyer := r.Home(t.Buyer)
	seller, noSeller := r.Home(t.Seller)
	if noBuyer != api.OK || noSeller != api.OK || !r.Has(t.Isin) {
		return 0, 0, api.ErrName
	}
	return buyer, seller, api.OK
}

// Local tells whether t has a route, and that is from one CCP to itself.
func (r *Roster) Local(t trade.Trade) bool {
	buyer, seller, e := r.Route(t)
	return e == api.OK && buyer == seller
}

package trade

import "clevis/octet"

// longest is how many bytes a text of a trade has at most where it is read.
const longest = 12

// Put writes t, and tells w.
func Put(w *octet.Writer, t Trade) *octet.Writer {
	return w.Number(t.ID).Text(t.Buyer, t.Seller, t.Isin).Number(t.Qty).Number(t.Price)
}

// Get reads a trade; that it isn't right is a mistake of the reader's.
func Get(r *octet.Reader) Trade {
	t := Trade{
		ID:     r.Number(),
		Buyer:  r.Text(longest),
		Seller: r.Text(longest),
		Isin:   r.Text(longest),
		Qty:    r.Number(),
		Price:  r.Number(),
	}
	// Only the first mistake stays: whatever Check says of what was read up to
	// one is nothing. (Of a nil reader, that has none, all that is read is nought.)
	r.Fail(Check(t))
	if !r.Ok() {
		return Trade{}
	}
	return t
}

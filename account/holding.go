package account

import (
	"maps"
	"slices"

	"clevis/api"
	"clevis/fixed"
	"clevis/note"
)

// Holding is quantities, by ISINs, and cash.
type Holding struct {
	Rows []note.Row
	Cash fixed.Wide
}

// sums is whole sums of quantities, by ISINs. They are wide: on the way there
// a sum may be above 64 bits.
type sums map[string]fixed.Wide

// Plus tells the sum of all of l.
func Plus(l ...Holding) (Holding, api.Errno) {
	if slices.ContainsFunc(l, func(h Holding) bool { return !Right(h) }) {
		return Holding{}, api.ErrArg
	}
	quantities := sums{}
	var money []fixed.Wide
	for _, h := range l {
		quantities.add(h.Rows)
		money = append(money, h.Cash)
	}
	rows, e := quantities.rows()
	if e != api.OK {
		return Holding{}, e
	}
	cash, e := fixed.Plus(money...)
	if e != api.OK {
		return Holding{}, e
	}
	return Holding{Rows: rows, Cash: cash}, api.OK
}

// Opposite tells 0 less h.
func Opposite(h Holding) (Holding, api.Errno) {
	if !Right(h) {
		return Holding{}, api.ErrArg
	}
	var rows []note.Row
	for _, row := range h.Rows {
		n, e := fixed.Sub(0, row.N)
		if e != api.OK {
			return Holding{}, e
		}
		rows = append(rows, note.Row{Name: row.Name, N: n})
	}
	cash, e := fixed.Opposite(h.Cash)
	if e != api.OK {
		return Holding{}, e
	}
	return Holding{Rows: rows, Cash: cash}, api.OK
}

// Same tells whether a and b have the same rows and cash.
func Same(a, b Holding) bool {
	return slices.Equal(a.Rows, b.Rows) && a.Cash == b.Cash
}

// Nought tells whether h is nothing.
func Nought(h Holding) bool {
	return Same(h, Holding{})
}

// Right tells whether h is a holding.
func Right(h Holding) bool {
	wrong := func(row note.Row) bool { return row.Name == "" || row.N == 0 }
	return note.Sorted(h.Rows...) && !slices.ContainsFunc(h.Rows, wrong)
}

// add adds the rows' quantities.
func (s sums) add(rows []note.Row) {
	for _, row := range rows {
		// It fits: no list is long enough to lead a sum above 128 bits.
		s[row.Name], _ = fixed.Plus(s[row.Name], fixed.Of(row.N))
	}
}

// rows tells the sums that aren't 0, rising by ISINs.
func (s sums) rows() ([]note.Row, api.Errno) {
	var l []note.Row
	for _, isin := range slices.Sorted(maps.Keys(s)) {
		n, e := fixed.Int(s[isin])
		if e != api.OK {
			return nil, e
		}
		if n != 0 {
			l = append(l, note.Row{Name: isin, N: n})
		}
	}
	return l, api.OK
}

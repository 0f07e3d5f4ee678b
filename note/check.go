package note

import (
	"cmp"
	"slices"

	"clevis/api"
	"clevis/ident"
	"clevis/trade"
)

// Check tells whether n is right.
func Check(n Note) api.Errno {
	if !isKind(n.Kind) {
		return api.ErrArg
	}
	asks := kinds[n.Kind].asks
	if asks.and(n) != asks {
		return api.ErrArg
	}
	return cmp.Or(
		unless(!asks.peer || n.Peer >= 0 && n.Peer < api.MaxNodes, api.ErrName),
		unless(!asks.day || n.Day >= 1 && n.Day <= api.MaxDays, api.ErrLong),
		checkTrade(n, asks),
		checkName(n, asks),
		unless(!asks.amount || isAmount(n), api.ErrLong),
		checkRows(n),
	)
}

// unless tells e, unless it is right.
func unless(right bool, e api.Errno) api.Errno {
	if right {
		return api.OK
	}
	return e
}

// checkTrade tells whether n's trade is right, if it must have one.
func checkTrade(n Note, asks parts) api.Errno {
	if !asks.trade {
		return api.OK
	}
	return trade.Check(n.Trade)
}

// checkName tells whether n's name is right, if it must have one.
func checkName(n Note, asks parts) api.Errno {
	if !asks.name {
		return api.OK
	}
	if n.Kind == Price {
		return ident.Isin(n.Name)
	}
	return ident.Member(n.Name)
}

// isAmount tells whether n's amount may be one.
func isAmount(n Note) bool {
	if n.Kind == Price {
		return isPrice(n.Amount)
	}
	return n.Amount >= 1 && n.Amount < api.MaxQty
}

// isPrice tells whether n may be a price.
func isPrice(n int64) bool {
	return n >= 0 && n < api.MaxPrice
}

// checkRows tells whether n's Rows are right; no Rows are.
func checkRows(n Note) api.Errno {
	if len(n.Rows) > api.MaxIsins {
		return api.ErrLong
	}
	// All names are looked at ahead of their order, and that ahead of all prices.
	for _, row := range n.Rows {
		if e := ident.Isin(row.Name); e != api.OK {
			return e
		}
	}
	if !Sorted(n.Rows...) {
		return api.ErrOrder
	}
	dear := func(row Row) bool { return !isPrice(row.N) }
	return unless(n.Kind != Mark || !slices.ContainsFunc(n.Rows, dear), api.ErrLong)
}

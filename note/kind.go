package note

import (
	"clevis/fixed"
	"clevis/trade"
)

// kinds is of each kind its word, and what it asks for; 0 is none.
var kinds = [...]struct {
	word string
	asks parts
}{
	Accept: {"accept", parts{trade: true}},
	Cut:    {"cut", parts{}},
	Price:  {"price", parts{name: true, amount: true}},
	Settle: {"settle", parts{day: true}},
	Post:   {"post", parts{name: true, amount: true}},
	Call:   {"call", parts{name: true, amount: true}},
	Answer: {"answer", parts{name: true}},
	Stop:   {"stop", parts{peer: true}},
	Leg:    {"leg", parts{peer: true, day: true, trade: true}},
	Mark:   {"mark", parts{peer: true, day: true, rows: true}},
	Report: {"report", parts{peer: true, day: true, rows: true, cash: true}},
	Halt:   {"halt", parts{peer: true}},
}

// parts is which parts there are, beside the kind, in the order of their bytes.
type parts struct {
	peer, day, trade, name, amount, rows, cash bool
}

// Word tells the kind's word.
func Word(kind int) string {
	if !isKind(kind) {
		return ""
	}
	return kinds[kind].word
}

// isKind tells whether n is a kind.
func isKind(n int) bool {
	return n >= Accept && n <= Halt
}

// and tells p with those parts more of which n has something.
func (p parts) and(n Note) parts {
	return parts{
		peer:   p.peer || n.Peer != 0,
		day:    p.day || n.Day != 0,
		trade:  p.trade || n.Trade != trade.Trade{},
		name:   p.name || n.Name != "",
		amount: p.amount || n.Amount != 0,
		rows:   p.rows || len(n.Rows) > 0,
		cash:   p.cash || n.Cash != fixed.Wide{},
	}
}

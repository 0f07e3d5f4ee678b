package note

import (
	"cmp"
	"math"

	"clevis/api"
	"clevis/octet"
	"clevis/trade"
)

// longest is how many bytes a text of a note has at most where it is read.
const longest = 12

// reader reads notes.
type reader struct{ *octet.Reader }

// Encode tells n's bytes.
func Encode(n Note) ([]byte, api.Errno) {
	if e := Check(n); e != api.OK {
		return nil, e
	}
	w := (&octet.Writer{}).Byte(byte(n.Kind))
	asks := kinds[n.Kind].asks
	if asks.peer {
		w.Byte(byte(n.Peer))
	}
	if asks.day {
		w.Count(n.Day)
	}
	if asks.trade {
		trade.Put(w, n.Trade)
	}
	if asks.name {
		w.Text(n.Name)
	}
	if asks.amount {
		w.Number(n.Amount)
	}
	if asks.rows {
		putRows(w, n.Rows)
	}
	if asks.cash {
		w.Wide(n.Cash)
	}
	return w.Done()
}

// Decode tells the right note of which b are the bytes.
func Decode(b []byte) (Note, api.Errno) {
	r := reader{octet.Read(b)}
	n := r.note()
	if e := cmp.Or(r.Done(), Check(n)); e != api.OK {
		return Note{}, e
	}
	return n, api.OK
}

// putRows writes how many rows there are, and each one.
func putRows(w *octet.Writer, l []Row) {
	w.Count(len(l))
	for _, row := range l {
		w.Text(row.Name).Number(row.N)
	}
}

// note reads a note, right or not.
func (r reader) note() Note {
	n := Note{Kind: r.kind()}
	asks := kinds[n.Kind].asks
	if asks.peer {
		n.Peer = int(r.Byte())
	}
	if asks.day {
		// However great: that is Check's to tell, behind all that is read.
		n.Day = r.Count(math.MaxInt)
	}
	if asks.trade {
		n.Trade = trade.Get(r.Reader)
	}
	if asks.name {
		n.Name = r.Text(longest)
	}
	if asks.amount {
		n.Amount = r.Number()
	}
	if asks.rows {
		n.Rows = r.rows()
	}
	if asks.cash {
		n.Cash = r.Wide()
	}
	return n
}

// kind reads a kind; 0 and a mistake, if it is none.
func (r reader) kind() int {
	kind := int(r.Byte())
	if !isKind(kind) {
		r.Fail(api.ErrForm)
		return 0
	}
	return kind
}

// rows reads how many rows there are, and each one.
func (r reader) rows() []Row {
	var l []Row
	for range r.Count(api.MaxIsins) {
		l = append(l, Row{Name: r.Text(longest), N: r.Number()})
	}
	return l
}

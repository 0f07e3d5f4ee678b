package note_test

import (
	"encoding/binary"
	"math/rand"
	"regexp"
	"slices"
	"strings"
	"testing"

	"clevis/api"
	"clevis/fixed"
	"clevis/ident"
	"clevis/note"
	"clevis/octet"
	"clevis/trade"
)

var memberName = regexp.MustCompile(`^[a-z][a-z0-9]{0,7}$`)

// plainCheck is what Check must tell: of each part, in the order of the bytes, whether it is asked for, and what is wrong with it then.
func plainCheck(n note.Note) api.Errno {
	if !slices.Contains([]int{1, 2, 3, 4, 5, 6, 7, 8, 9, 10, 11, 12}, n.Kind) {
		return api.ErrArg
	}
	var none note.Note
	nought := []bool{peer: n.Peer == none.Peer, day: n.Day == none.Day, deal: n.Trade == none.Trade, name: n.Name == none.Name, amount: n.Amount == none.Amount, rows: len(n.Rows) == 0, cash: n.Cash == none.Cash}
	for part, is := range nought {
		if !is && !slices.Contains(asks(n.Kind), part) {
			return api.ErrArg
		}
	}
	for _, part := range asks(n.Kind) {
		if e := plainPart(n, part); e != api.OK {
			return e
		}
	}
	return api.OK
}

// plainPart is what is wrong with that part of a note that must have it.
func plainPart(n note.Note, part int) api.Errno {
	switch {
	case part == peer && !slices.Contains([]int{0, 1, 2}, n.Peer):
		return api.ErrName
	case part == day && (n.Day <= 0 || n.Day > 500):
		return api.ErrLong
	case part == deal:
		return trade.Check(n.Trade)
	case part == name && n.Kind == 3:
		return ident.Isin(n.Name)
	case part == name && !memberName.MatchString(n.Name):
		return api.ErrForm
	case part == amount && (n.Amount < 0 || n.Amount > 2147483647 || n.Amount == 0 && n.Kind != 3):
		return api.ErrLong
	case part == rows:
		return plainRows(n)
	}
	return api.OK
}

// plainRows is what is wrong with a note's Rows.
func plainRows(n note.Note) api.Errno {
	if len(n.Rows) > 32 {
		return api.ErrLong
	}
	var names []string
	dear := false
	for _, r := range n.Rows {
		if e := ident.Isin(r.Name); e != api.OK {
			return e
		}
		names = append(names, r.Name)
		dear = dear || r.N < 0 || r.N > 2147483647
	}
	if !slices.Equal(names, slices.Compact(slices.Sorted(slices.Values(names)))) {
		return api.ErrOrder
	}
	if n.Kind == 10 && dear {
		return api.ErrLong
	}
	return api.OK
}

// plainBytes are those of a note, by the library's way of writing numbers.
func plainBytes(n note.Note) []byte {
	b := []byte{byte(n.Kind)}
	text := func(s string) { b = append(binary.AppendUvarint(b, uint64(len(s))), s...) }
	number := func(n int64) { b = binary.AppendVarint(b, n) }
	for _, part := range asks(n.Kind) {
		switch part {
		case peer:
			b = append(b, byte(n.Peer))
		case day:
			b = binary.AppendUvarint(b, uint64(n.Day))
		case deal:
			number(n.Trade.ID)
			text(n.Trade.Buyer)
			text(n.Trade.Seller)
			text(n.Trade.Isin)
			number(n.Trade.Qty)
			number(n.Trade.Price)
		case name:
			text(n.Name)
		case amount:
			number(n.Amount)
		case rows:
			b = binary.AppendUvarint(b, uint64(len(n.Rows)))
			for _, r := range n.Rows {
				text(r.Name)
				number(r.N)
			}
		case cash:
			number(n.Cash.Hi)
			b = binary.BigEndian.AppendUint64(b, n.Cash.Lo)
		}
	}
	return b
}

// plainDecode is what Decode must tell: each thing is read by itself, and asked for a mistake ahead of the next one.
func plainDecode(b []byte) (note.Note, api.Errno) {
	if len(b) == 0 {
		return note.Note{}, api.ErrEnd
	}
	if b[0] < 1 || b[0] > 12 {
		return note.Note{}, api.ErrForm
	}
	r := octet.Read(b[1:])
	n := note.Note{Kind: int(b[0])}
	for _, part := range asks(n.Kind) {
		plainRead(r, &n, part)
		if !r.Ok() {
			return note.Note{}, r.Done()
		}
	}
	if r.Rest() > 0 {
		return note.Note{}, api.ErrForm
	}
	if e := plainCheck(n); e != api.OK {
		return note.Note{}, e
	}
	return n, api.OK
}

// plainRead reads one part of a note.
func plainRead(r *octet.Reader, n *note.Note, part int) {
	switch part {
	case peer:
		n.Peer = int(r.Byte())
	case day:
		n.Day = r.Count(1<<63 - 1)
	case deal:
		n.Trade = trade.Get(r)
	case name:
		n.Name = r.Text(12)
	case amount:
		n.Amount = r.Number()
	case rows:
		many := r.Count(32)
		for len(n.Rows) < many && r.Ok() {
			s := r.Text(12)
			n.Rows = append(n.Rows, note.Row{Name: s, N: r.Number()})
		}
	case cash:
		n.Cash = r.Wide()
	}
}

// holds asks all of a note by which it is checked, written and told.
func holds(t *testing.T, n note.Note) {
	t.Helper()
	want := plainCheck(n)
	checks(t, n, want)
	equals(t, n, copied(n), true)
	if want != api.OK {
		encodes(t, n, "", want)
		return
	}
	b := plainBytes(n)
	encodes(t, n, string(b), api.OK)
	decodes(t, string(b), n, api.OK)
}

// holdsBytes holds what is decoded against what must be: bytes that are a note's are that note's alone.
func holdsBytes(t *testing.T, b []byte) {
	t.Helper()
	want, e := plainDecode(b)
	decodes(t, string(b), want, e)
	if e == api.OK {
		encodes(t, want, string(b), api.OK)
	}
}

// chanced is a note by chance, of which many parts are right.
func chanced(chance *rand.Rand) note.Note {
	n := right(1 + chance.Intn(12))
	for _, part := range asks(n.Kind) {
		if chance.Intn(2) == 0 {
			chancedPart(chance, &n, part)
		}
	}
	if chance.Intn(8) == 0 {
		chancedPart(chance, &n, chance.Intn(7))
	}
	if chance.Intn(40) == 0 {
		n.Kind = chance.Intn(16) - 1
	}
	return n
}

// chancedPart makes that part of a note another one.
func chancedPart(chance *rand.Rand, n *note.Note, part int) {
	numbers := []int64{0, 1, -1, 2, 63, 64, -64, -65, over - 1, over, over + 1, most, least, int64(chance.Uint64()), chance.Int63() >> chance.Intn(63)}
	names := []string{"a", "alfa", "beta", "abcdefgh", "abcdefghi", "", "A", apple, bae, "US0378331006", strings.Repeat("a", 12), strings.Repeat("a", 13)}
	number := numbers[chance.Intn(len(numbers))]
	switch part {
	case peer:
		n.Peer = chance.Intn(5) - 1
	case day:
		n.Day = []int{0, 1, 2, 127, 128, 499, 500, 501, -1, int(number)}[chance.Intn(10)]
	case deal:
		n.Trade = sold()
		n.Trade.ID, n.Trade.Qty, n.Trade.Price = 1+chance.Int63(), 1+chance.Int63n(over), chance.Int63n(over)
		if chance.Intn(4) == 0 {
			n.Trade.Buyer = names[chance.Intn(len(names))]
		}
	case name:
		n.Name = names[chance.Intn(len(names))]
	case amount:
		n.Amount = number
	case rows:
		n.Rows = listed(chance.Intn(34), chance.Int63n(over), chance.Int63n(over))
		if len(n.Rows) > 0 && chance.Intn(2) == 0 {
			n.Rows[chance.Intn(len(n.Rows))].N = number
		}
		if len(n.Rows) > 0 && chance.Intn(4) == 0 {
			n.Rows[chance.Intn(len(n.Rows))].Name = names[chance.Intn(len(names))]
		}
		if chance.Intn(4) == 0 {
			n.Rows = append(n.Rows, row(apple, number), row(bae, 1))[:len(n.Rows)+chance.Intn(3)]
		}
	case cash:
		n.Cash = fixed.Wide{Hi: number, Lo: chance.Uint64() >> chance.Intn(64)}
	}
}

// bent is s with a byte that is put in, taken out or another one.
func bent(chance *rand.Rand, s []byte) []byte {
	by := "\x00\x01\x02\x03\x04\x0c\x0d\x20\x21\x7f\x80\xffAa05"[chance.Intn(16)]
	at := chance.Intn(len(s))
	switch chance.Intn(3) {
	case 0:
		return slices.Insert(slices.Clone(s), at, by)
	case 1:
		return slices.Delete(slices.Clone(s), at, at+1)
	}
	s = slices.Clone(s)
	s[at] = by
	return s
}

// P9.1 to P9.4, P2: notes by chance, and their bytes, bent by chance; the seed is fixed, so that they are the same each time.
func TestChance(t *testing.T) {
	chance := rand.New(rand.NewSource(9))
	met := map[api.Errno]int{}
	var last note.Note
	for range 20000 {
		n := chanced(chance)
		holds(t, n)
		met[plainCheck(n)]++
		equals(t, n, last, same(n, last))
		if n.Kind >= 1 && n.Kind <= 12 && n.Day >= 0 {
			b := plainBytes(n)
			holdsBytes(t, b)
			holdsBytes(t, bent(chance, b))
		}
		last = n
	}
	for _, e := range []api.Errno{api.OK, api.ErrArg, api.ErrName, api.ErrLong, api.ErrForm, api.ErrSum, api.ErrOrder} {
		if met[e] < 20 {
			t.Errorf("error %d was met %d times", e, met[e])
		}
	}
}

// P1, P9.1 to P9.4: whatever a note has, each call ends, and tells what it must.
func FuzzNotes(f *testing.F) {
	f.Add(9, 1, 4, int64(7), "alfa", "beta", "", int64(0), "", "", int64(0), int64(0), uint64(0))
	f.Add(11, 2, 500, int64(0), "", "", "", int64(0), bae, apple, int64(-5), int64(-1), uint64(3))
	f.Add(3, 0, 0, int64(0), "", "", apple, int64(250), "", "", int64(0), int64(0), uint64(0))
	f.Add(-1, 3, 501, int64(least), "A", "A", "abcdefghi", int64(over), apple, bae, int64(most), int64(least), uint64(1))
	f.Fuzz(func(t *testing.T, kind, peer, day int, id int64, buyer, seller, name string, amount int64, one, other string, n, hi int64, lo uint64) {
		if len(buyer)+len(seller)+len(name)+len(one)+len(other) > 100000 {
			return
		}
		x := note.Note{Kind: kind, Peer: peer, Day: day, Name: name, Amount: amount, Cash: fixed.Wide{Hi: hi, Lo: lo}}
		if id != 0 {
			x.Trade = trade.Trade{ID: id, Buyer: buyer, Seller: seller, Isin: apple, Qty: 10, Price: 250}
		}
		for _, s := range []string{one, other} {
			if s != "" {
				x.Rows = append(x.Rows, row(s, n))
			}
		}
		holds(t, x)
		if note.Message(x) != slices.Contains([]int{9, 10, 11, 12}, kind) || (note.Word(kind) != "") != (kind >= 1 && kind <= 12) {
			t.Fatalf("kind %d: %v, %q", kind, note.Message(x), note.Word(kind))
		}
	})
}

// P1, P9.2, P9.4: whatever the bytes are.
func FuzzBytes(f *testing.F) {
	f.Add([]byte{})
	for _, x := range written() {
		f.Add([]byte(strings.Join(x.pieces, "")))
	}
	f.Fuzz(func(t *testing.T, b []byte) {
		holdsBytes(t, b)
	})
}

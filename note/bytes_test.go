package note_test

import (
	"bytes"
	"slices"
	"strings"
	"testing"

	"clevis/api"
	"clevis/fixed"
	"clevis/note"
	"clevis/octet"
	"clevis/trade"
)

const (
	soldBytes  = "\x0e\x04alfa\x04beta\x0cUS0378331005\x14\xf4\x03"
	appleBytes = "\x0cUS0378331005"
	baeBytes   = "\x0cGB0002634946"
)

// written are right notes of each kind, and the pieces that are written of each, one behind the other.
func written() []struct {
	n      note.Note
	pieces []string
} {
	deal := []string{"\x0e", "\x04alfa", "\x04beta", appleBytes, "\x14", "\xf4\x03"}
	wide := fixed.Wide{Hi: -65, Lo: 0x0102030405060708}
	return []struct {
		n      note.Note
		pieces []string
	}{
		{right(note.Accept), append([]string{"\x01"}, deal...)},
		{right(note.Cut), []string{"\x02"}},
		{right(note.Price), []string{"\x03", appleBytes, "\xf4\x03"}},
		{right(note.Price, toName(bae), toAmount(0)), []string{"\x03", baeBytes, "\x00"}},
		{right(note.Price, toAmount(over-1)), []string{"\x03", appleBytes, "\xfe\xff\xff\xff\x0f"}},
		{right(note.Settle), []string{"\x04", "\x03"}},
		{right(note.Settle, toDay(500)), []string{"\x04", "\xf4\x03"}},
		{right(note.Post), []string{"\x05", "\x04alfa", "\x12"}},
		{right(note.Post, toName("abcdefgh"), toAmount(over-1)), []string{"\x05", "\x08abcdefgh", "\xfe\xff\xff\xff\x0f"}},
		{right(note.Call), []string{"\x06", "\x04alfa", "\x02"}},
		{right(note.Answer), []string{"\x07", "\x04alfa"}},
		{right(note.Answer, toName("a")), []string{"\x07", "\x01a"}},
		{right(note.Stop), []string{"\x08", "\x02"}},
		{right(note.Stop, toPeer(1)), []string{"\x08", "\x01"}},
		{right(note.Stop, toPeer(0)), []string{"\x08", "\x00"}},
		{right(note.Leg), append([]string{"\x09", "\x01", "\x04"}, deal...)},
		{right(note.Leg, toPeer(0), toDay(128)), append([]string{"\x09", "\x00", "\x80\x01"}, deal...)},
		{right(note.Mark), []string{"\x0a", "\x00", "\xf4\x03", "\x02", baeBytes, "\x00", appleBytes, "\x0e"}},
		{right(note.Mark, toRows()), []string{"\x0a", "\x00", "\xf4\x03", "\x00"}},
		{right(note.Report), []string{"\x0b", "\x01", "\x01", "\x02", baeBytes, "\x09", appleBytes, "\x0e", "\x01", "\x00\x00\x00\x00\x00\x00\x00\x03"}},
		{right(note.Report, toRows(), toCash(fixed.Wide{})), []string{"\x0b", "\x01", "\x01", "\x00", "\x00", "\x00\x00\x00\x00\x00\x00\x00\x00"}},
		{right(note.Report, toRows(row(bae, least), row(apple, most)), toCash(wide)), []string{
			"\x0b", "\x01", "\x01", "\x02", baeBytes, "\xff\xff\xff\xff\xff\xff\xff\xff\xff\x01", appleBytes, "\xfe\xff\xff\xff\xff\xff\xff\xff\xff\x01", "\x81\x01", "\x01\x02\x03\x04\x05\x06\x07\x08",
		}},
		{right(note.Halt), []string{"\x0c", "\x01"}},
		{right(note.Halt, toPeer(0)), []string{"\x0c", "\x00"}},
	}
}

// encodes holds what Encode tells of n against what must be, twice, and that n stays as it was.
func encodes(t *testing.T, n note.Note, want string, e api.Errno) {
	t.Helper()
	before := copied(n)
	for range 2 {
		if b, got := note.Encode(n); string(b) != want || got != e {
			t.Errorf("Encode of %.300s: %.200q, error %d; want %.200q, error %d", told(n), b, got, want, e)
		}
	}
	if !same(n, before) {
		t.Errorf("Encode changed %.300s: %.300s", told(before), told(n))
	}
}

// decodes holds what Decode tells of b against what must be, twice, and that b stays as it was.
func decodes(t *testing.T, b string, want note.Note, e api.Errno) {
	t.Helper()
	given := []byte(b)
	for range 2 {
		if n, got := note.Decode(given); !same(n, want) || got != e {
			t.Errorf("Decode of %.200q: %.300s, error %d; want %.300s, error %d", b, told(n), got, told(want), e)
		}
	}
	if string(given) != b {
		t.Errorf("Decode changed %.200q: %.200q", b, given)
	}
}

// fails holds that of bytes no note is decoded, by that mistake.
func fails(t *testing.T, b string, e api.Errno) {
	t.Helper()
	decodes(t, b, note.Note{}, e)
}

// P9.2, P9.4: right notes of each kind, as their bytes, and back.
func TestBytes(t *testing.T) {
	for _, x := range written() {
		b := strings.Join(x.pieces, "")
		encodes(t, x.n, b, api.OK)
		decodes(t, b, x.n, api.OK)
	}
	for _, n := range rights() {
		b, e := note.Encode(n)
		if e != api.OK || len(b) == 0 || int(b[0]) != n.Kind {
			t.Errorf("Encode of %.300s: %.200q, error %d", told(n), b, e)
		}
		decodes(t, string(b), n, api.OK)
		if m, _ := note.Decode(b); !note.Equal(m, n) {
			t.Errorf("%.300s isn't equal to %.300s", told(m), told(n))
		}
	}
}

// P9.4: notes that aren't the same have other bytes.
func TestBytesDiffer(t *testing.T) {
	met := map[string]note.Note{}
	for _, n := range rights() {
		b, _ := note.Encode(n)
		if m, twice := met[string(b)]; twice && !same(m, n) {
			t.Errorf("%.300s and %.300s have the bytes %.200q", told(m), told(n), b)
		}
		met[string(b)] = n
	}
}

// P9.2: what Check refuses isn't encoded, by Check's error.
func TestEncodeRefused(t *testing.T) {
	for _, kind := range noKinds() {
		encodes(t, note.Note{Kind: kind}, "", api.ErrArg)
		encodes(t, right(note.Leg, func(n *note.Note) { n.Kind = kind }), "", api.ErrArg)
	}
	for kind := note.Accept; kind <= note.Halt; kind++ {
		for _, m := range mistakes(kind) {
			encodes(t, right(kind, m.turn), "", m.want)
		}
		for part, turns := range things() {
			if !slices.Contains(asks(kind), part) {
				encodes(t, right(kind, turns[0]), "", api.ErrArg)
			}
		}
	}
}

// P9.2: bytes that are cut off anywhere end too early, wherever that is.
func TestDecodeCutOff(t *testing.T) {
	for _, x := range written() {
		b := strings.Join(x.pieces, "")
		for n := range len(b) {
			fails(t, b[:n], api.ErrEnd)
		}
	}
	for _, b := range [][]byte{nil, {}} {
		if n, e := note.Decode(b); !same(n, note.Note{}) || e != api.ErrEnd {
			t.Errorf("Decode of no bytes: %.300s, error %d", told(n), e)
		}
	}
	full, _ := note.Encode(right(note.Report, toRows(listed(32, least, 1)...)))
	for n := range len(full) {
		fails(t, string(full[:n]), api.ErrEnd)
	}
}

// P9.2: bytes that are left behind a note.
func TestDecodeLeft(t *testing.T) {
	for _, x := range written() {
		b := strings.Join(x.pieces, "")
		for behind := range 256 {
			fails(t, b+string([]byte{byte(behind)}), api.ErrForm)
		}
		fails(t, b+b, api.ErrForm)
		fails(t, b+strings.Repeat("\x00", 100000), api.ErrForm)
	}
}

// P9.2: kinds that are none, whatever stands behind them.
func TestDecodeKinds(t *testing.T) {
	for kind := range 256 {
		if kind >= note.Accept && kind <= note.Halt {
			continue
		}
		for _, behind := range []string{"", "\x00", "\x01", "\x01\x01", soldBytes, "\x80\x00", strings.Repeat("\xff", 300)} {
			fails(t, string([]byte{byte(kind)})+behind, api.ErrForm)
		}
	}
}

// P9.2: texts of 12 bytes are read, whatever Check then says of them; longer ones aren't, whether their bytes are there or not.
func TestDecodeLongTexts(t *testing.T) {
	twelve, thirteen := "\x0c"+strings.Repeat("a", 12), "\x0d"+strings.Repeat("a", 13)
	for _, head := range []string{"\x05", "\x06"} {
		fails(t, head+twelve+"\x02", api.ErrForm)
		fails(t, head+thirteen+"\x02", api.ErrLong)
		fails(t, head+twelve, api.ErrEnd)
		fails(t, head+thirteen, api.ErrLong)
	}
	fails(t, "\x07"+twelve, api.ErrForm)
	fails(t, "\x03"+twelve+"\x02", api.ErrForm)
	fails(t, "\x03\x0cUS0378331006\x02", api.ErrSum)
	fails(t, "\x0a\x00\x01\x01"+twelve+"\x02", api.ErrForm)
	fails(t, "\x0b\x00\x01\x01\x0cUS0378331006\x02\x00"+strings.Repeat("\x00", 8), api.ErrSum)
	for _, long := range []string{thirteen, "\x0d", "\x0dUS03783310055", "\x7f", "\x80\x01", "\xff\xff\xff\xff\xff\xff\xff\xff\x7f", "\xa0\x8d\x06" + strings.Repeat("a", 100000)} {
		for _, ahead := range []string{
			"\x03", "\x05", "\x06", "\x07", "\x01\x0e", "\x01\x0e\x04alfa", "\x01\x0e\x04alfa\x04beta", "\x09\x01\x01\x0e", "\x0a\x00\x01\x01", "\x0b\x00\x01\x01",
			"\x0a\x00\x01\x02" + baeBytes + "\x00", "\x0b\x00\x01\x02" + baeBytes + "\x00",
		} {
			fails(t, ahead+long, api.ErrLong)
			fails(t, ahead+long+"\x02\x02", api.ErrLong)
		}
	}
}

// P9.2: 32 Rows are read, 33 aren't, whether they are there or not.
func TestDecodeManyRows(t *testing.T) {
	for _, kind := range []int{note.Mark, note.Report} {
		head := []byte{byte(kind), 1, 1}
		tail := ""
		if kind == note.Report {
			tail = "\x02\x00\x00\x00\x00\x00\x00\x00\x05"
		}
		for _, many := range []int{0, 1, 31, 32, 33, 34, 64, 127, 128, 1000} {
			w := (&octet.Writer{}).Byte(head[0]).Byte(head[1]).Byte(head[2]).Count(many)
			l := listed(many, 5, 7)
			for _, r := range l {
				w.Text(r.Name).Number(r.N)
			}
			b, _ := w.Done()
			if many > 32 {
				fails(t, string(b)+tail, api.ErrLong)
				continue
			}
			want := right(kind, toPeer(1), toDay(1), toRows(l...))
			if kind == note.Report {
				want.Cash = fixed.Wide{Hi: 1, Lo: 5}
			}
			decodes(t, string(b)+tail, want, api.OK)
			// Fewer than are told, and more.
			b[3]++
			if many < 32 {
				fails(t, string(b), api.ErrEnd)
			} else {
				fails(t, string(b)+tail, api.ErrLong)
			}
		}
		for _, count := range []string{"\x21", "\x22", "\x7f", "\x80\x01", "\xa1\x01", "\xff\xff\xff\xff\xff\xff\xff\xff\x7f"} {
			fails(t, string(head)+count, api.ErrLong)
			fails(t, string(head)+count+strings.Repeat(appleBytes+"\x00", 40), api.ErrLong)
		}
	}
}

// P9.2: counts, numbers and lengths that aren't written as they must be, in each place that has one.
func TestDecodeBadBytes(t *testing.T) {
	single := map[int]int{note.Stop: 2, note.Leg: 2, note.Mark: 2, note.Report: 2, note.Halt: 2}
	for _, x := range written() {
		for at := range x.pieces {
			last := x.n.Kind == note.Report && at == len(x.pieces)-1
			if at == 0 || at < single[x.n.Kind] || last {
				continue // a kind, a Peer, a wide number's low word
			}
			ahead, behind := strings.Join(x.pieces[:at], ""), strings.Join(x.pieces[at+1:], "")
			for _, bad := range []string{"\x80\x00", "\xff\x00", "\xff\xff\xff\xff\xff\xff\xff\xff\xff\x02", strings.Repeat("\x80", 10), strings.Repeat("\xff", 11)} {
				fails(t, ahead+bad+behind, api.ErrForm)
				fails(t, ahead+bad, api.ErrForm)
			}
		}
	}
	// What a number may have, a count and a length mayn't.
	ten := "\xff\xff\xff\xff\xff\xff\xff\xff\xff\x01"
	for _, ahead := range []string{"\x04", "\x07", "\x0a\x00", "\x0a\x00\x01", "\x0a\x00\x01\x01"} {
		fails(t, ahead+ten, api.ErrForm)
	}
	fails(t, "\x03"+appleBytes+ten, api.ErrLong)
	decodes(t, "\x0b\x00\x01\x00"+ten+strings.Repeat("\x00", 8), note.Note{Kind: note.Report, Day: 1, Cash: fixed.Wide{Hi: least}}, api.OK)
}

// P9.2: a trade that isn't right is the reader's mistake: ahead of bytes that are left, and of what Check says of the rest.
func TestDecodeTrades(t *testing.T) {
	for _, m := range wrongTrades() {
		n := right(note.Leg, m.turn)
		b, e := trade.Put(&octet.Writer{}, n.Trade).Done()
		if e != api.OK {
			t.Fatal(e)
		}
		fails(t, "\x01"+string(b), m.want)
		fails(t, "\x01"+string(b)+"\x00", m.want)
		for _, head := range []string{"\x09\x01\x01", "\x09\x03\x01", "\x09\x01\x00", "\x09\xff\xf5\x03"} {
			fails(t, head+string(b), m.want)
			fails(t, head+string(b)+"\x00", m.want)
		}
	}
}

// P9.2: what is read, but refused by Check.
func TestDecodeRefused(t *testing.T) {
	low := strings.Repeat("\x00", 9)
	for b, want := range map[string]api.Errno{
		"\x03" + appleBytes + "\x01":                 api.ErrLong,
		"\x03" + appleBytes + "\x80\x80\x80\x80\x10": api.ErrLong,
		"\x03\x00\x00":                               api.ErrForm,
		"\x03\x04alfa\x02":                           api.ErrForm,
		"\x03\x0cUS0378331006\x01":                   api.ErrSum,
		"\x04\x00":                                   api.ErrLong,
		"\x04\xf5\x03":                               api.ErrLong,
		"\x04\xff\xff\xff\xff\xff\xff\xff\xff\x7f":   api.ErrLong,
		"\x04\x80\x80\x80\x80\x10":                   api.ErrLong,
		"\x05\x04alfa\x00":                           api.ErrLong,
		"\x05\x04alfa\x01":                           api.ErrLong,
		"\x06\x04alfa\x80\x80\x80\x80\x10":           api.ErrLong,
		"\x05\x00\x02":                               api.ErrForm,
		"\x06\x01A\x00":                              api.ErrForm,
		"\x05" + appleBytes + "\x02":                 api.ErrForm,
		"\x07\x00":                                   api.ErrForm,
		"\x07\x09abcdefghi":                          api.ErrForm,
		"\x08\x03":                                   api.ErrName,
		"\x08\xff":                                   api.ErrName,
		"\x0c\x03":                                   api.ErrName,
		"\x0c\x80":                                   api.ErrName,
		"\x09\x03\x04" + soldBytes:                   api.ErrName,
		"\x09\x03\x00" + soldBytes:                   api.ErrName,
		"\x09\x01\x00" + soldBytes:                   api.ErrLong,
		"\x09\x01\xf5\x03" + soldBytes:               api.ErrLong,
		"\x0a\x03\x00\x00":                           api.ErrName,
		"\x0a\x00\x00\x00":                           api.ErrLong,
		"\x0a\x00\x01\x01" + appleBytes + "\x01":     api.ErrLong,
		"\x0a\x00\x01\x01\x00\x01":                   api.ErrForm,
		"\x0a\x00\x01\x02" + appleBytes + "\x00" + baeBytes + "\x00":         api.ErrOrder,
		"\x0a\x00\x01\x02" + appleBytes + "\x00" + appleBytes + "\x00":       api.ErrOrder,
		"\x0a\x00\x01\x02" + appleBytes + "\x01\x0cUS0378331006\x00":         api.ErrSum,
		"\x0b\x03\xf5\x03\x00" + low:                                         api.ErrName,
		"\x0b\x02\xf5\x03\x00" + low:                                         api.ErrLong,
		"\x0b\x02\x01\x01\x04alfa\x00" + low:                                 api.ErrForm,
		"\x0b\x02\x01\x02" + appleBytes + "\x00" + baeBytes + "\x00" + low:   api.ErrOrder,
		"\x0b\x02\x01\x02" + appleBytes + "\x00" + appleBytes + "\x02" + low: api.ErrOrder,
	} {
		fails(t, b, want)
		// What is left goes ahead of that, and so does an end that is too early.
		fails(t, b+"\x00", api.ErrForm)
		fails(t, b[:len(b)-1], api.ErrEnd)
	}
	for kind := note.Accept; kind <= note.Halt; kind++ {
		for _, part := range asks(kind) {
			if part != rows {
				continue
			}
			for _, m := range wrongRows(kind) {
				n := right(kind, m.turn)
				if b, e := laid(n); e == api.OK && len(n.Rows) <= 32 {
					long := slices.ContainsFunc(n.Rows, func(r note.Row) bool { return len(r.Name) > 12 })
					if long {
						fails(t, string(b), api.ErrLong)
					} else {
						fails(t, string(b), m.want)
					}
				}
			}
		}
	}
}

// laid are the bytes that a note has by the document's words, right or not.
func laid(n note.Note) ([]byte, api.Errno) {
	w := (&octet.Writer{}).Byte(byte(n.Kind))
	for _, part := range asks(n.Kind) {
		switch part {
		case peer:
			w.Byte(byte(n.Peer))
		case day:
			w.Count(n.Day)
		case deal:
			w.Number(n.Trade.ID).Text(n.Trade.Buyer).Text(n.Trade.Seller).Text(n.Trade.Isin).Number(n.Trade.Qty).Number(n.Trade.Price)
		case name:
			w.Text(n.Name)
		case amount:
			w.Number(n.Amount)
		case rows:
			w.Count(len(n.Rows))
			for _, r := range n.Rows {
				w.Text(r.Name).Number(r.N)
			}
		case cash:
			w.Wide(n.Cash)
		}
	}
	return w.Done()
}

// P1: of several mistakes the reader's first one is told, ahead of all that Check would say of what was read.
func TestDecodeMistakeFirst(t *testing.T) {
	fails(t, "\x08", api.ErrEnd)
	fails(t, "\x09\x03\x00", api.ErrEnd)
	fails(t, "\x09\x03\x80\x00", api.ErrForm)
	fails(t, "\x09\x03\x00\x00\x0d", api.ErrLong)
	fails(t, "\x0a\x03\x00\x21", api.ErrLong)
	fails(t, "\x0a\x03\x00\x01\x00", api.ErrEnd)
	fails(t, "\x0a\x03\x00\x01\x00\x80\x00", api.ErrForm)
	fails(t, "\x0a\x03\x00\x01\x0d\x80\x00", api.ErrLong)
	fails(t, "\x0b\x03\x00\x02\x00\x00\x00\x00\x80\x00"+strings.Repeat("\x00", 8), api.ErrForm)
	fails(t, "\x05\x00\x80", api.ErrEnd)
	fails(t, "\x05\x0d\x80\x00", api.ErrLong)
}

// P9.4: bytes, and a note's Rows, may be changed behind a call; what is told is new memory.
func TestNewMemory(t *testing.T) {
	for _, x := range written() {
		n, b := copied(x.n), strings.Join(x.pieces, "")
		first, _ := note.Encode(n)
		second, _ := note.Encode(n)
		spoil(first, 0xee)
		if string(second) != b {
			t.Errorf("two answers of Encode share: %q", second)
		}
		for i := range n.Rows {
			n.Rows[i] = row("zz", 99)
		}
		if string(second) != b {
			t.Errorf("bytes share with Rows: %q", second)
		}
		one, _ := note.Decode(second)
		other, _ := note.Decode(second)
		spoil(second, 0xee)
		if !same(one, x.n) || !same(other, x.n) {
			t.Errorf("a note shares with its bytes: %s", told(one))
		}
		spoil(one.Rows, row("zz", 99))
		if !same(other, x.n) {
			t.Errorf("two answers of Decode share: %s", told(other))
		}
	}
}

// spoil puts x everywhere into l, and behind its end.
func spoil[T any](l []T, x T) {
	l = l[:cap(l)]
	for i := range l {
		l[i] = x
	}
}

// P1, P9.1 to P9.3: nil in place of a list, in each call that takes one, is as the empty one.
func TestNil(t *testing.T) {
	if n, e := note.Decode(nil); !same(n, note.Note{}) || e != api.ErrEnd {
		t.Errorf("Decode: %s, error %d", told(n), e)
	}
	if !note.Sorted(nil...) || !note.Sorted([]note.Row{}...) {
		t.Error("Sorted")
	}
	for kind := note.Accept; kind <= note.Halt; kind++ {
		empty, none := right(kind, toRows([]note.Row{}...)), right(kind, toRows())
		none.Rows = nil
		checks(t, none, api.OK)
		checks(t, empty, api.OK)
		if !note.Equal(none, empty) || note.Message(none) != note.Message(empty) {
			t.Errorf("kind %d: nil and empty Rows differ", kind)
		}
		one, _ := note.Encode(none)
		other, _ := note.Encode(empty)
		if len(one) == 0 || !bytes.Equal(one, other) {
			t.Errorf("kind %d: %q, %q", kind, one, other)
		}
	}
}

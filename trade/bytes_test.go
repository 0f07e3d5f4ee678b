package trade_test

import (
	"bytes"
	"math"
	"slices"
	"strings"
	"testing"

	"clevis/api"
	"clevis/fixed"
	"clevis/octet"
	"clevis/trade"
)

// rightBytes are those of right().
const rightBytes = "\x0e\x04alfa\x04beta\x0cUS0378331005\x14\xf4\x03"

// put is what Put writes of x.
func put(t *testing.T, x trade.Trade) string {
	t.Helper()
	w := &octet.Writer{}
	if trade.Put(w, x) != w {
		t.Error("Put answers another writer")
	}
	b, e := w.Done()
	if e != api.OK {
		t.Errorf("Put of %.99v: error %d", x, e)
	}
	return string(b)
}

// gets holds what Get reads of r against what must be, and where r stands then.
func gets(t *testing.T, what string, r *octet.Reader, want trade.Trade, left int, e api.Errno) {
	t.Helper()
	if x := trade.Get(r); x != want {
		t.Errorf("%.99q: Get: %+v; want %+v", what, x, want)
	}
	done := e
	if e == api.OK && left > 0 {
		done = api.ErrForm
	}
	if r.Rest() != left || r.Ok() != (e == api.OK) || r.Done() != done {
		t.Errorf("%.99q: %d bytes left, ok %v, done %d; want %d, error %d", what, r.Rest(), r.Ok(), r.Done(), left, e)
	}
}

// fails holds that of bytes no trade is read, by that mistake, which then stays.
func fails(t *testing.T, b string, left int, e api.Errno) {
	t.Helper()
	r := octet.Read([]byte(b))
	gets(t, b, r, trade.Trade{}, left, e)
	r.Fail(api.ErrState)
	gets(t, b+", again", r, trade.Trade{}, left, e)
	if r.Number() != 0 || r.Byte() != 0 || r.Rest() != left {
		t.Errorf("%.99q: something was read behind the mistake", b)
	}
}

// written are trades, and the pieces that are written of each, one behind the other.
func written() []struct {
	t      trade.Trade
	pieces []string
} {
	return []struct {
		t      trade.Trade
		pieces []string
	}{
		{right(), []string{"\x0e", "\x04alfa", "\x04beta", "\x0cUS0378331005", "\x14", "\xf4\x03"}},
		{trade.Trade{ID: 1, Buyer: "a", Seller: "b", Isin: bae, Qty: 1}, []string{"\x02", "\x01a", "\x01b", "\x0cGB0002634946", "\x02", "\x00"}},
		{trade.Trade{ID: most, Buyer: "abcdefgh", Seller: "a1234567", Isin: apple, Qty: over - 1, Price: over - 1}, []string{"\xfe\xff\xff\xff\xff\xff\xff\xff\xff\x01", "\x08abcdefgh", "\x08a1234567", "\x0cUS0378331005", "\xfe\xff\xff\xff\x0f", "\xfe\xff\xff\xff\x0f"}},
	}
}

// P7.2, P7.4: right trades are written, and read as they were.
func TestPutGet(t *testing.T) {
	for _, x := range written() {
		b := strings.Join(x.pieces, "")
		for range 2 {
			if got := put(t, x.t); got != b {
				t.Errorf("Put of %v: %q; want %q", x.t, got, b)
			}
		}
		gets(t, b, octet.Read([]byte(b)), x.t, 0, api.OK)
	}
	for _, x := range append(singles(), mixed()...) {
		if x.want == api.OK {
			gets(t, "a right trade", octet.Read([]byte(put(t, x.t))), x.t, 0, api.OK)
		}
	}
}

// P7.2: what isn't right is written, too.
func TestPutWrong(t *testing.T) {
	for b, x := range map[string]trade.Trade{
		"\x00\x00\x00\x00\x00\x00":         {},
		"\x01\x02\xff\n\x01 \x01A\x03\x05": {ID: -1, Buyer: "\xff\n", Seller: " ", Isin: "A", Qty: -2, Price: -3},
		"\xff\xff\xff\xff\xff\xff\xff\xff\xff\x01\x00\x00\x0dABCDEFGHIJKLM\xfe\xff\xff\xff\xff\xff\xff\xff\xff\x01\x80\x80\x80\x80\x10": {ID: least, Isin: "ABCDEFGHIJKLM", Qty: most, Price: over},
		"\x0e\x80\x02" + strings.Repeat("x", 256) + "\x00\x00\x14\xf4\x03":                                                              {ID: 7, Buyer: strings.Repeat("x", 256), Qty: 10, Price: 250},
	} {
		if got := put(t, x); got != b {
			t.Errorf("Put of %.99v: %.99q; want %.99q", x, got, b)
		}
	}
}

// P7.2: trades are written behind what is there and ahead of what comes, and read so.
func TestPutChain(t *testing.T) {
	w := (&octet.Writer{}).Byte(9)
	second := right(id(8), seller("gamma"), price(0))
	b, e := trade.Put(trade.Put(w, right()).Text("hi"), second).Wide(fixed.Of(5)).Done()
	if e != api.OK || !bytes.HasPrefix(b, []byte("\x09"+rightBytes+"\x02hi\x10")) {
		t.Errorf("%q, error %d", b, e)
	}
	before := slices.Clone(b)
	r := octet.Read(b)
	if n := r.Byte(); n != 9 {
		t.Error(n)
	}
	gets(t, "the first", r, right(), len(b)-1-len(rightBytes), api.OK)
	if s := r.Text(9); s != "hi" {
		t.Error(s)
	}
	gets(t, "the second", r, second, 9, api.OK)
	if x := r.Wide(); x != fixed.Of(5) || r.Done() != api.OK {
		t.Error(x, r.Done())
	}
	if !bytes.Equal(b, before) {
		t.Errorf("%q were changed: %q", before, b)
	}
}

// P7.2: behind a writer's mistake nothing is written, and the mistake stays.
func TestPutBehindMistake(t *testing.T) {
	for want, w := range map[api.Errno]*octet.Writer{
		api.ErrArg:  (&octet.Writer{}).Byte(1).Count(-1),
		api.ErrLong: (&octet.Writer{}).Text(strings.Repeat("x", api.MaxBytes)),
	} {
		for range 2 {
			if trade.Put(w, right()) != w {
				t.Error("Put answers another writer")
			}
			if b, e := w.Done(); len(b) != 0 || e != want {
				t.Errorf("%q, error %d; want error %d", b, e, want)
			}
		}
	}
}

// P7.2: a trade that makes more than MaxBytes is a mistake, wherever the room ends.
func TestPutTooMuch(t *testing.T) {
	for room := range len(rightBytes) + 3 {
		w := &octet.Writer{}
		for range api.MaxBytes - room {
			w.Byte(0)
		}
		b, e := trade.Put(w, right()).Done()
		if room < len(rightBytes) {
			if len(b) != 0 || e != api.ErrLong {
				t.Errorf("room for %d bytes: %d are written, error %d", room, len(b), e)
			}
		} else if e != api.OK || string(b[api.MaxBytes-room:]) != rightBytes {
			t.Errorf("room for %d bytes: error %d", room, e)
		}
	}
	long := strings.Repeat("x", api.MaxBytes)
	for _, x := range []trade.Trade{right(buyer(long)), right(seller(long)), right(isin(long)), right(buyer(long[:len(long)/2]), isin(long[:len(long)/2]))} {
		if b, e := trade.Put(&octet.Writer{}, x).Done(); len(b) != 0 || e != api.ErrLong {
			t.Errorf("%d bytes, error %d", len(b), e)
		}
	}
}

// P7.2: bytes that are cut off anywhere end too early: what stands whole ahead of that is read, and there is no trade.
func TestGetCutOff(t *testing.T) {
	for _, x := range written() {
		ahead := ""
		for _, piece := range x.pieces {
			for n := range len(piece) {
				fails(t, ahead+piece[:n], n, api.ErrEnd)
			}
			ahead += piece
		}
	}
	for _, r := range []*octet.Reader{{}, octet.Read(nil), octet.Read([]byte{})} {
		gets(t, "no bytes", r, trade.Trade{}, 0, api.ErrEnd)
	}
}

// P7.2: texts of at most 12 bytes are read, whatever Check then says of them; of more they aren't, whether their bytes are there or not.
func TestGetLongTexts(t *testing.T) {
	twelve, thirteen := strings.Repeat("a", 12), strings.Repeat("a", 13)
	fails(t, put(t, right(buyer(twelve))), 0, api.ErrForm)
	fails(t, put(t, right(seller(twelve))), 0, api.ErrForm)
	fails(t, put(t, right(isin(twelve))), 0, api.ErrForm)
	fails(t, put(t, right(isin("US0378331006"))), 0, api.ErrSum)
	fails(t, put(t, right(id(0), buyer(twelve), seller(twelve), isin(twelve))), 0, api.ErrArg)
	for _, s := range []string{thirteen, apple + "5", "abcdefgh     ", strings.Repeat("a", 100), strings.Repeat("a", 100000)} {
		for at, x := range []trade.Trade{right(buyer(s)), right(seller(s)), right(isin(s)), right(id(0), buyer(s)), right(buyer("A"), seller(s)), right(seller("alfa"), isin(s), qty(0))} {
			b := put(t, x)
			ahead := []int{1, 6, 11, 1, 3, 11}[at]
			fails(t, b, len(b)-ahead, api.ErrLong)
		}
	}
	for _, b := range []string{"\x0d", "\x0daaa", "\x7f", "\xff\x01", "\xff\xff\xff\xff\xff\xff\xff\xff\x7f"} {
		fails(t, "\x0e"+b, len(b), api.ErrLong)
		fails(t, "\x0e\x04alfa"+b, len(b), api.ErrLong)
		fails(t, "\x0e\x04alfa\x04beta"+b, len(b), api.ErrLong)
	}
	fails(t, "\x0e\x0caaa", 4, api.ErrEnd)
}

// P7.2: numbers and lengths that aren't written so.
func TestGetBadBytes(t *testing.T) {
	good := written()[0].pieces
	for _, bad := range []string{"\x80\x00", "\xff\x00", "\xff\xff\xff\xff\xff\xff\xff\xff\xff\x02", strings.Repeat("\x80", 10), strings.Repeat("\xff", 11)} {
		for at := range good {
			ahead, behind := strings.Join(good[:at], ""), strings.Join(good[at+1:], "")
			fails(t, ahead+bad+behind, len(bad+behind), api.ErrForm)
			fails(t, ahead+bad, len(bad), api.ErrForm)
		}
	}
	// A length of ten bytes is none.
	fails(t, "\x0e\xff\xff\xff\xff\xff\xff\xff\xff\xff\x01", 10, api.ErrForm)
}

// P7.2: a trade that isn't right is Check's mistake, ahead of bytes that are left.
func TestGetWrong(t *testing.T) {
	for _, x := range append(singles(), mixed()...) {
		if x.want == api.OK || max(len(x.t.Buyer), len(x.t.Seller), len(x.t.Isin)) > 12 {
			continue
		}
		b := put(t, x.t)
		fails(t, b, 0, x.want)
		fails(t, b+rightBytes, len(rightBytes), x.want)
	}
}

// P7.2: a mistake of reading goes ahead of what Check says of the parts that were read.
func TestGetMistakeFirst(t *testing.T) {
	fails(t, "\x00\x04alfa\x04beta\x0cUS0378331005\x14", 0, api.ErrEnd)
	fails(t, "\x00\x01A\x80\x00", 2, api.ErrForm)
	fails(t, "\x00\x0d", 1, api.ErrLong)
	fails(t, "\x0e\x04alfa\x04alfa\x0cUS0378331006\x00\x80\x00", 2, api.ErrForm)
	// All is right but what isn't there.
	fails(t, "\x0e\x04alfa\x04beta\x0cUS0378331005\x14", 0, api.ErrEnd)
	fails(t, "\x0e\x04alfa\x04beta\x0cUS0378331005\x14\x80", 1, api.ErrEnd)
}

// P7.2: of a reader that has made a mistake, or was told one, nothing is read, and the mistake stays.
func TestGetBehindMistake(t *testing.T) {
	all := []api.Errno{16, 99, -1, math.MaxInt, math.MinInt}
	for e := api.ErrArg; e <= api.ErrPrice; e++ {
		all = append(all, e)
	}
	for _, e := range all {
		for _, b := range []string{rightBytes, put(t, trade.Trade{}), "", "\x80"} {
			r := octet.Read([]byte(b))
			r.Fail(e)
			gets(t, "failed", r, trade.Trade{}, len(b), e)
			gets(t, "failed, again", r, trade.Trade{}, len(b), e)
		}
	}
	r := octet.Read([]byte(rightBytes + rightBytes))
	gets(t, "whole", r, right(), len(rightBytes), api.OK)
	r.Count(6)
	gets(t, "behind a great count", r, trade.Trade{}, len(rightBytes), api.ErrLong)
	r = octet.Read([]byte(rightBytes))
	r.Fail(api.OK)
	gets(t, "behind no mistake", r, right(), 0, api.OK)
}

// P1, P7.2: a nil writer writes nothing, and of a nil reader nothing is read, which is no mistake.
func TestNil(t *testing.T) {
	for _, x := range []trade.Trade{{}, right(), right(qty(0)), right(buyer(strings.Repeat("x", api.MaxBytes+1)))} {
		w := trade.Put(nil, x)
		if w != nil {
			t.Error("Put of a nil writer answers another one")
		}
		if b, e := w.Done(); len(b) != 0 || e != api.ErrState {
			t.Errorf("%q, error %d", b, e)
		}
	}
	for range 2 {
		gets(t, "nil", nil, trade.Trade{}, 0, api.OK)
	}
	totals(t, "0", nil...)
}

package octet_test

import (
	"math"
	"strings"
	"testing"

	"clevis/api"
	"clevis/fixed"
	"clevis/octet"
)

// filled is a writer of so many bytes.
func filled(t *testing.T, n int) *octet.Writer {
	t.Helper()
	w := &octet.Writer{}
	length := 1
	if n > 128 {
		length = 3
	}
	if n > length {
		w.Text(strings.Repeat("x", n-length))
	}
	for len(done(t, w)) < n {
		w.Byte('y')
	}
	return w
}

// P5.1: the zero Writer has no bytes and no mistake.
func TestZeroWriter(t *testing.T) {
	var w octet.Writer
	if b, e := w.Done(); len(b) != 0 || e != api.OK {
		t.Error(b, e)
	}
	if b := done(t, w.Text()); b != "" {
		t.Errorf("%q", b)
	}
	if b := done(t, w.Byte(0)); b != "\x00" {
		t.Errorf("%q", b)
	}
}

// P5.1: a count below 0 is a mistake, wherever it stands, and nothing is told beside it.
func TestCountBelowNought(t *testing.T) {
	for _, n := range []int{-1, -2, -128, math.MinInt + 1, math.MinInt} {
		w := &octet.Writer{}
		if w.Count(n) != w {
			t.Error("another writer")
		}
		fails(t, "alone", w, api.ErrArg)
		fails(t, "behind others", (&octet.Writer{}).Byte(1).Text("a").Count(n), api.ErrArg)
		fails(t, "ahead of others", (&octet.Writer{}).Count(n).Count(1).Byte(1), api.ErrArg)
		fails(t, "full", filled(t, api.MaxBytes).Count(n), api.ErrArg)
	}
}

// P5.1: MaxBytes bytes in all, and one more, by each call.
func TestMaxBytes(t *testing.T) {
	for _, x := range samples() {
		w := filled(t, api.MaxBytes-len(x.bytes))
		x.write(w)
		if b := done(t, w); len(b) != api.MaxBytes || !strings.HasSuffix(b, x.bytes) {
			t.Errorf("%s: %d bytes", x.name, len(b))
		}
		fails(t, "one more byte", w.Byte(0), api.ErrLong)
		w = filled(t, api.MaxBytes-len(x.bytes)+1)
		if x.write(w) != w {
			t.Errorf("%s: another writer", x.name)
		}
		fails(t, x.name+" and one more", w, api.ErrLong)
		w = filled(t, api.MaxBytes)
		fails(t, x.name+" behind all", x.write(w), api.ErrLong)
	}
}

// P5.1: of texts the first that is too much is the mistake, and it is so as a whole.
func TestMaxText(t *testing.T) {
	const room = api.MaxBytes - 3 // its length has three bytes
	if b := done(t, (&octet.Writer{}).Text(strings.Repeat("z", room))); len(b) != api.MaxBytes || b[:4] != "\xfd\xff\x3fz" {
		t.Errorf("%d bytes, %q", len(b), b[:4])
	}
	for _, n := range []int{room + 1, room + 2, room + 3, room + 4, 3 * room, 1 << 24} {
		fails(t, "one text", (&octet.Writer{}).Text(strings.Repeat("z", n)), api.ErrLong)
	}
	half := strings.Repeat("z", api.MaxBytes/2-3)
	if b := done(t, (&octet.Writer{}).Text(half, half)); len(b) != api.MaxBytes {
		t.Error(len(b))
	}
	fails(t, "a third one", (&octet.Writer{}).Text(half, half, ""), api.ErrLong)
	fails(t, "the second one", (&octet.Writer{}).Text(half, half+"z", ""), api.ErrLong)
	fails(t, "the first one, and there is room for the second", (&octet.Writer{}).Text(half+half+"zzzzz", "a"), api.ErrLong)
	if b := done(t, filled(t, api.MaxBytes).Text()); len(b) != api.MaxBytes {
		t.Error("no text behind all:", len(b))
	}
}

// P5.1: the first mistake stays, whichever of the two it is, and nothing is written after it.
func TestFirstMistakeOfWriter(t *testing.T) {
	great := strings.Repeat("z", api.MaxBytes)
	for _, x := range []struct {
		name    string
		make    func() *octet.Writer
		mistake api.Errno
	}{
		{"a count below 0", func() *octet.Writer { return (&octet.Writer{}).Count(-1) }, api.ErrArg},
		{"a count below 0, then too much", func() *octet.Writer { return (&octet.Writer{}).Count(-1).Text(great) }, api.ErrArg},
		{"too much", func() *octet.Writer { return (&octet.Writer{}).Text(great) }, api.ErrLong},
		{"too much, then a count below 0", func() *octet.Writer { return (&octet.Writer{}).Text(great).Count(-1) }, api.ErrLong},
		{"behind some bytes too much", func() *octet.Writer { return filled(t, api.MaxBytes-1).Count(128).Count(-1) }, api.ErrLong},
		{"behind some bytes a count below 0", func() *octet.Writer { return filled(t, api.MaxBytes-1).Count(-1).Count(128) }, api.ErrArg},
	} {
		for _, y := range samples() {
			w := x.make()
			fails(t, x.name, w, x.mistake)
			if y.write(w) != w {
				t.Errorf("%s: another writer", x.name)
			}
			fails(t, x.name+", then "+y.name, w, x.mistake)
			fails(t, x.name+", then both", w.Count(-1).Text(great).Text(), x.mistake)
		}
	}
}

// P5.1: what Done gave stays at a later call, and what is done to it isn't seen.
func TestDoneGives(t *testing.T) {
	for n := range 70 {
		w := &octet.Writer{}
		for i := range n {
			w.Byte(byte(i))
		}
		first, _ := w.Done()
		again, _ := w.Done()
		before := string(first)
		w.Byte(byte(n)).Text("more")
		_ = append(first, 99, 99, 99, 99)
		if string(first) != before || string(again) != before || len(before) != n {
			t.Fatalf("%d bytes: %q and %q; were %q", n, first, again, before)
		}
		for i := range first {
			first[i] ^= 255
		}
		if string(again) != before {
			t.Errorf("%d bytes: two share", n)
		}
		if b := done(t, w); b != before+string([]byte{byte(n)})+"\x04more" {
			t.Errorf("%d bytes: %q behind a change of what was told", n, b)
		}
		w.Count(-1)
		if string(again) != before {
			t.Errorf("%d bytes: the mistake changed what was told", n)
		}
	}
}

// P2: two writers have nothing in common.
func TestTwoWriters(t *testing.T) {
	var a, b octet.Writer
	for i := range 100 {
		a.Byte(byte(i))
		b.Count(i).Number(-1)
	}
	b.Count(-1)
	want := make([]byte, 100)
	for i := range want {
		want[i] = byte(i)
	}
	if got := done(t, &a); got != string(want) {
		t.Errorf("%q", got)
	}
	fails(t, "the other one", &b, api.ErrArg)
}

// P5.3: a nil writer writes nothing: each call answers it, and it tells ErrState.
func TestNilWriter(t *testing.T) {
	var none *octet.Writer
	fails(t, "at first", none, api.ErrState)
	for _, x := range samples() {
		if x.write(none) != nil {
			t.Errorf("%s: a writer", x.name)
		}
		fails(t, x.name, none, api.ErrState)
	}
	for name, w := range map[string]*octet.Writer{
		"a count below 0": none.Count(-1),
		"no text":         none.Text(),
		"too much":        none.Text(strings.Repeat("z", api.MaxBytes+1)),
		"a chain":         none.Count(1).Number(-1).Wide(fixed.Wide{Hi: 1}).Text("a", "b").Byte(1),
		"all mistakes":    none.Count(-1).Text(strings.Repeat("z", api.MaxBytes+1)).Count(-1),
	} {
		if w != nil {
			t.Errorf("%s: a writer", name)
		}
		fails(t, name, w, api.ErrState)
	}
}

package octet_test

import (
	"math"
	"strings"
	"testing"

	"clevis/api"
	"clevis/fixed"
	"clevis/octet"
)

const (
	least = math.MinInt64
	most  = math.MaxInt64
)

// sample is one of the Writer's calls, the bytes that it must write, and the Reader's call that must read them.
type sample struct {
	name  string
	bytes string
	write func(w *octet.Writer) *octet.Writer
	read  func(r *octet.Reader) bool // was it read as it was?
	none  func(r *octet.Reader) bool // was nought read?
}

func count(n int, bytes string) sample {
	return sample{"a count", bytes,
		func(w *octet.Writer) *octet.Writer { return w.Count(n) },
		func(r *octet.Reader) bool { return r.Count(n) == n && r.Ok() },
		func(r *octet.Reader) bool { return r.Count(most) == 0 },
	}
}

func number(n int64, bytes string) sample {
	return sample{"a number", bytes,
		func(w *octet.Writer) *octet.Writer { return w.Number(n) },
		func(r *octet.Reader) bool { return r.Number() == n && r.Ok() },
		func(r *octet.Reader) bool { return r.Number() == 0 },
	}
}

func wide(hi int64, lo uint64, bytes string) sample {
	x := fixed.Wide{Hi: hi, Lo: lo}
	return sample{"a wide number", bytes,
		func(w *octet.Writer) *octet.Writer { return w.Wide(x) },
		func(r *octet.Reader) bool { return r.Wide() == x && r.Ok() },
		func(r *octet.Reader) bool { return r.Wide() == fixed.Wide{} },
	}
}

func text(s, length string) sample {
	return sample{"a text", length + s,
		func(w *octet.Writer) *octet.Writer { return w.Text(s) },
		func(r *octet.Reader) bool { return r.Text(len(s)) == s && r.Ok() },
		func(r *octet.Reader) bool { return r.Text(most) == "" },
	}
}

func single(b byte) sample {
	return sample{"a byte", string([]byte{b}),
		func(w *octet.Writer) *octet.Writer { return w.Byte(b) },
		func(r *octet.Reader) bool { return r.Byte() == b && r.Ok() },
		func(r *octet.Reader) bool { return r.Byte() == 0 },
	}
}

// ones is so many groups of seven bits, all set, another one behind each; noughts those of none.
func ones(n int) string    { return strings.Repeat("\xff", n) }
func noughts(n int) string { return strings.Repeat("\x80", n) }

// zeros is so many bytes 0.
func zeros(n int) string { return strings.Repeat("\x00", n) }

// samples are all edges that the chapter names, of each call.
func samples() []sample {
	return []sample{
		count(0, "\x00"), count(1, "\x01"), count(2, "\x02"), count(127, "\x7f"),
		count(128, "\x80\x01"), count(129, "\x81\x01"), count(300, "\xac\x02"), count(16383, "\xff\x7f"), count(16384, "\x80\x80\x01"),
		count(1<<56-1, ones(7)+"\x7f"), count(1<<56, noughts(8)+"\x01"), count(1<<62, noughts(8)+"\x40"),
		count(most-1, "\xfe"+ones(7)+"\x7f"), count(most, ones(8)+"\x7f"),

		number(0, "\x00"), number(-1, "\x01"), number(1, "\x02"), number(-2, "\x03"), number(63, "\x7e"), number(-64, "\x7f"),
		number(64, "\x80\x01"), number(-65, "\x81\x01"), number(150, "\xac\x02"), number(8191, "\xfe\x7f"), number(-8192, "\xff\x7f"), number(8192, "\x80\x80\x01"),
		number(1<<62-1, "\xfe"+ones(7)+"\x7f"), number(-1<<62, ones(8)+"\x7f"), number(1<<62, noughts(9)+"\x01"), number(-1<<62-1, "\x81"+noughts(8)+"\x01"),
		number(most, "\xfe"+ones(8)+"\x01"), number(least, ones(9)+"\x01"), number(least+1, "\xfd"+ones(8)+"\x01"),

		wide(0, 0, zeros(9)), wide(0, 1, zeros(8)+"\x01"), wide(0, math.MaxUint64, "\x00"+ones(8)), wide(-1, math.MaxUint64, "\x01"+ones(8)),
		wide(-2, 1, "\x03"+zeros(7)+"\x01"), wide(1, 0x0102030405060708, "\x02\x01\x02\x03\x04\x05\x06\x07\x08"), wide(-1, 0xf0f1f2f3f4f5f6f7, "\x01\xf0\xf1\xf2\xf3\xf4\xf5\xf6\xf7"),
		wide(-65, 1<<63, "\x81\x01\x80"+zeros(7)), wide(most, math.MaxUint64, "\xfe"+ones(8)+"\x01"+ones(8)), wide(least, 0, ones(9)+"\x01"+zeros(8)),

		text("", "\x00"), text("h", "\x01"), text("hi", "\x02"), text("\x00\x80\xff\n", "\x04"), text("\u00e9\u20ac", "\x05"),
		text(zeros(127), "\x7f"), text(ones(128), "\x80\x01"), text(strings.Repeat("a", 300), "\xac\x02"), text(strings.Repeat("ab", 10000), "\xa0\x9c\x01"),

		single(0), single(1), single(7), single(127), single(128), single(255),
	}
}

// done is the bytes of a writer without a mistake.
func done(t *testing.T, w *octet.Writer) string {
	t.Helper()
	b, e := w.Done()
	if e != api.OK {
		t.Fatalf("Done: error %d", e)
	}
	return string(b)
}

// fails holds a writer with a mistake against the error that it must tell.
func fails(t *testing.T, what string, w *octet.Writer, want api.Errno) {
	t.Helper()
	for range 2 {
		if b, e := w.Done(); len(b) != 0 || e != want {
			t.Fatalf("%s: %d bytes, error %d; want none, error %d", what, len(b), e, want)
		}
	}
}

// stands holds a reader against how many bytes are left of it, and its mistake.
func stands(t *testing.T, what string, r *octet.Reader, left int, mistake api.Errno) {
	t.Helper()
	want := mistake
	if left > 0 && mistake == api.OK {
		want = api.ErrForm
	}
	for range 2 {
		if r.Rest() != left || r.Ok() != (mistake == api.OK) || r.Done() != want {
			t.Fatalf("%s: %d bytes left, Ok %t, Done %d; want %d bytes, error %d", what, r.Rest(), r.Ok(), r.Done(), left, want)
		}
	}
}

// stays holds a reader that has a mistake against what each call must tell then: nought, and nothing goes.
func stays(t *testing.T, what string, r *octet.Reader, left int, mistake api.Errno) {
	t.Helper()
	stands(t, what, r, left, mistake)
	for _, x := range samples() {
		if !x.none(r) {
			t.Fatalf("%s: %s was read behind the mistake", what, x.name)
		}
		stands(t, what, r, left, mistake)
	}
	if r.Count(-1) != 0 || r.Text(-1) != "" {
		t.Fatalf("%s: read behind the mistake", what)
	}
	r.Fail(api.ErrTwice)
	r.Fail(api.OK)
	stands(t, what, r, left, mistake)
}

// P5.1: each call writes its bytes; it answers the writer. The zero Writer may be used.
func TestWritten(t *testing.T) {
	for _, x := range samples() {
		var w octet.Writer
		if x.write(&w) != &w {
			t.Errorf("%s: another writer", x.name)
		}
		if b := done(t, &w); b != x.bytes {
			t.Errorf("%s: %.40q, %d bytes; want %.40q, %d bytes", x.name, b, len(b), x.bytes, len(x.bytes))
		}
		made := octet.Read([]byte(x.bytes))
		if !x.read(made) {
			t.Errorf("%s of %.40q was read as another one", x.name, x.bytes)
		}
		stands(t, x.name, made, 0, api.OK)
	}
}

// P5.1, P5.2, P5.3: what is written in one chain stands one behind the other, and is read so.
func TestChain(t *testing.T) {
	l := samples()
	for first := range l {
		w, want := &octet.Writer{}, ""
		chained := w
		for i := range l {
			x := l[(first+i)%len(l)]
			chained = x.write(chained)
			want += x.bytes
		}
		if b := done(t, w); chained != w || b != want {
			t.Fatalf("from %d on: %d bytes; want %d", first, len(b), len(want))
		}
		r := octet.Read([]byte(want))
		left := len(want)
		for i := range l {
			x := l[(first+i)%len(l)]
			stands(t, x.name, r, left, api.OK)
			if !x.read(r) {
				t.Fatalf("from %d on: %s was read as another one", first, x.name)
			}
			left -= len(x.bytes)
		}
		stands(t, "at the end", r, 0, api.OK)
	}
}

// P5.3: bytes of which one is another one, or that are more, are not read as the sample with none left.
func TestNoOtherBytes(t *testing.T) {
	for _, x := range samples() {
		if len(x.bytes) > 400 {
			continue
		}
		b := []byte(x.bytes)
		for at := range b {
			for by := 1; by < 256; by++ {
				b[at] ^= byte(by)
				r := octet.Read(b)
				if x.read(r) && r.Done() == api.OK {
					t.Fatalf("%s of %.40q was read of %.40q", x.name, x.bytes, b)
				}
				b[at] ^= byte(by)
			}
		}
		for more := range 256 {
			r := octet.Read(append([]byte(x.bytes), byte(more)))
			if x.read(r) && r.Done() == api.OK {
				t.Fatalf("%s of %.40q and %d: all was read", x.name, x.bytes, more)
			}
		}
	}
}

// P5.1: the example, and texts one by one.
func TestTexts(t *testing.T) {
	for _, x := range []struct {
		l    []string
		want string
	}{
		{nil, ""}, {[]string{}, ""}, {[]string{""}, "\x00"}, {[]string{"", ""}, "\x00\x00"},
		{[]string{"hi", ""}, "\x02hi\x00"}, {[]string{"a", "", "bc", "a"}, "\x01a\x00\x02bc\x01a"},
	} {
		w := &octet.Writer{}
		if w.Text(x.l...) != w {
			t.Error("another writer")
		}
		if b := done(t, w); b != x.want {
			t.Errorf("Text(%q): %q; want %q", x.l, b, x.want)
		}
		r := octet.Read([]byte(x.want))
		for _, s := range x.l {
			if got := r.Text(2); got != s {
				t.Errorf("of %q: %q", x.l, got)
			}
		}
		stands(t, "texts", r, 0, api.OK)
	}
}

package octet_test

import (
	"math"
	"slices"
	"strings"
	"testing"

	"clevis/api"
	"clevis/fixed"
	"clevis/octet"
)

// call is one of the Reader's calls: whether it read nought.
type call struct {
	name string
	read func(r *octet.Reader) bool
}

// counted are the calls that read a count first; of a count and a length it may be as great as any.
func counted() []call {
	return []call{
		{"a count", func(r *octet.Reader) bool { return r.Count(most) == 0 }},
		{"a text", func(r *octet.Reader) bool { return r.Text(most) == "" }},
		{"a number", func(r *octet.Reader) bool { return r.Number() == 0 }},
		{"a wide number", func(r *octet.Reader) bool { return r.Wide() == fixed.Wide{} }},
	}
}

// P5.2: counts that aren't written so, in each call that reads one: too long, not the shortest, ending too early.
func TestBadCounts(t *testing.T) {
	for _, x := range []struct {
		bytes string
		want  api.Errno
	}{
		{"", api.ErrEnd}, {"\x80", api.ErrEnd}, {"\xff", api.ErrEnd}, {"\x80\x80", api.ErrEnd}, {ones(8), api.ErrEnd}, {noughts(9), api.ErrEnd}, {ones(9), api.ErrEnd},
		{"\x80\x00", api.ErrForm}, {"\xff\x00", api.ErrForm}, {"\xac\x82\x00", api.ErrForm}, {ones(7) + "\x00", api.ErrForm}, {ones(8) + "\x00", api.ErrForm},
		{noughts(8) + "\x00", api.ErrForm}, {noughts(9) + "\x00", api.ErrForm}, {ones(9) + "\x00", api.ErrForm},
		{noughts(9) + "\x02", api.ErrForm}, {ones(9) + "\x02", api.ErrForm}, {ones(9) + "\x03", api.ErrForm}, {ones(9) + "\x40", api.ErrForm}, {ones(9) + "\x7f", api.ErrForm},
		{noughts(10), api.ErrForm}, {ones(9) + "\x81", api.ErrForm}, {ones(10), api.ErrForm},
		{noughts(10) + "\x01", api.ErrForm}, {ones(10) + "\x01", api.ErrForm}, {ones(9) + "\x81\x00", api.ErrForm}, {ones(11), api.ErrForm}, {ones(40) + "\x01", api.ErrForm},
	} {
		for _, y := range counted() {
			// What is behind it doesn't mend a count that isn't written so.
			for _, behind := range []string{"", "\x01", zeros(30)} {
				if x.want == api.ErrEnd && behind != "" {
					continue
				}
				r := octet.Read([]byte(x.bytes + behind))
				if !y.read(r) {
					t.Errorf("%s was read of %q", y.name, x.bytes)
				}
				stays(t, y.name, r, len(x.bytes+behind), x.want)
			}
		}
	}
}

// P5.2: a count, and a text's length, are below 2^63: one of ten bytes is none. A number may have them.
func TestTenBytes(t *testing.T) {
	for bytes, want := range map[string]int64{
		ones(9) + "\x01":             least,
		"\xfe" + ones(8) + "\x01":    most,
		noughts(9) + "\x01":          1 << 62,
		"\x81" + noughts(8) + "\x01": -1<<62 - 1,
	} {
		r := octet.Read([]byte(bytes))
		if n := r.Count(most); n != 0 {
			t.Errorf("Count of %q: %d", bytes, n)
		}
		stays(t, "a count of ten bytes", r, 10, api.ErrForm)
		for _, limit := range []int{-1, 0, 99, most} {
			r = octet.Read([]byte(bytes + "abc"))
			if s := r.Text(limit); s != "" {
				t.Errorf("Text of %q: %q", bytes, s)
			}
			stays(t, "a length of ten bytes", r, 13, api.ErrForm)
		}
		r = octet.Read([]byte(bytes))
		if n := r.Number(); n != want {
			t.Errorf("Number of %q: %d; want %d", bytes, n, want)
		}
		stands(t, "a number of ten bytes", r, 0, api.OK)
	}
}

// P5.2, P5.3: of any sample that is cut off anywhere nothing is read: ErrEnd, and the reader stands ahead of it.
func TestEndsEarly(t *testing.T) {
	for _, x := range samples() {
		for n := range min(len(x.bytes), 400) {
			r := octet.Read([]byte("\x05" + x.bytes[:n]))
			r.Byte()
			if !x.none(r) {
				t.Errorf("%s was read of %.40q", x.name, x.bytes[:n])
			}
			stands(t, x.name, r, n, api.ErrEnd)
			if n < 20 {
				stays(t, x.name, r, n, api.ErrEnd)
			}
		}
	}
}

// P5.2: a count at most and above it; a most below 0 lets none.
func TestCountMost(t *testing.T) {
	for _, n := range []int{0, 1, 2, 127, 128, 300, 1 << 31, 1<<62 - 1, most - 1, most} {
		b := []byte(done(t, (&octet.Writer{}).Count(n)))
		for _, limit := range []int{math.MinInt, -most, -1, 0, 1, n - 1, n, n + 1, 127, 128, most - 1, most} {
			r := octet.Read(append(slices.Clone(b), 7))
			got := r.Count(limit)
			if n <= limit {
				if got != n {
					t.Errorf("Count(%d) of %d: %d", limit, n, got)
				}
				stands(t, "at most", r, 1, api.OK)
				continue
			}
			if got != 0 {
				t.Errorf("Count(%d) of %d: %d", limit, n, got)
			}
			stays(t, "above most", r, len(b)+1, api.ErrLong)
		}
	}
}

// P5.2: that the count isn't written so, or ends too early, goes ahead of its being above most.
func TestMostIsLast(t *testing.T) {
	for bytes, want := range map[string]api.Errno{"": api.ErrEnd, "\xff": api.ErrEnd, "\xe4\x00": api.ErrForm, "\xff\x80\x00": api.ErrForm, ones(9) + "\x01": api.ErrForm, "\x64": api.ErrLong} {
		for _, limit := range []int{math.MinInt, -1, 0, 99} {
			r := octet.Read([]byte(bytes))
			if n := r.Count(limit); n != 0 {
				t.Error(n)
			}
			stays(t, "a count", r, len(bytes), want)
			r = octet.Read([]byte(bytes))
			if s := r.Text(limit); s != "" {
				t.Error(s)
			}
			stays(t, "a text", r, len(bytes), want)
		}
	}
}

// P5.2: a text's length at most and above it; that it is above is told ahead of missing bytes, of which there may be any number.
func TestTextMost(t *testing.T) {
	for _, x := range []struct {
		bytes string
		most  int
		want  string
		left  int
		e     api.Errno
	}{
		{"\x02hi!", 2, "hi", 1, api.OK}, {"\x02hi!", 3, "hi", 1, api.OK}, {"\x02hi!", most, "hi", 1, api.OK}, {"\x00!", 0, "", 1, api.OK},
		{"\x02hi!", 1, "", 4, api.ErrLong}, {"\x02hi!", 0, "", 4, api.ErrLong}, {"\x02hi!", -1, "", 4, api.ErrLong}, {"\x00!", -1, "", 2, api.ErrLong}, {"\x00", math.MinInt, "", 1, api.ErrLong},
		{"\x02h", 2, "", 2, api.ErrEnd}, {"\x02", 2, "", 1, api.ErrEnd}, {"\x03ab", 9, "", 3, api.ErrEnd}, {"\x01", most, "", 1, api.ErrEnd},
		{"\x02h", 1, "", 2, api.ErrLong}, {"\x02", 1, "", 1, api.ErrLong}, {"\x02", -1, "", 1, api.ErrLong},
		{ones(8) + "\x7fabc", most, "", 12, api.ErrEnd}, {ones(8) + "\x7fabc", most - 1, "", 12, api.ErrLong}, {noughts(8) + "\x40", most, "", 9, api.ErrEnd},
	} {
		r := octet.Read([]byte(x.bytes))
		if s := r.Text(x.most); s != x.want {
			t.Errorf("Text(%d) of %q: %q", x.most, x.bytes, s)
		}
		stands(t, "a text", r, x.left, x.e)
		if x.e != api.OK {
			stays(t, "a text", r, x.left, x.e)
		}
	}
}

// P5.2: of a wide number all of the high word is asked ahead of the low one, and it stands ahead of both.
func TestBadWide(t *testing.T) {
	for bytes, want := range map[string]api.Errno{
		"\x02" + zeros(7):           api.ErrEnd,
		"\x02":                      api.ErrEnd,
		ones(9) + "\x01" + ones(7):  api.ErrEnd,
		"\x80\x00":                  api.ErrForm,
		"\x80\x00" + zeros(8):       api.ErrForm,
		ones(9) + "\x02" + zeros(8): api.ErrForm,
	} {
		r := octet.Read([]byte("\x01" + bytes))
		r.Count(1)
		if x := r.Wide(); x != (fixed.Wide{}) {
			t.Errorf("Wide of %q: %v", bytes, x)
		}
		stays(t, "a wide number", r, len(bytes), want)
	}
}

// P5.2: Fail makes the mistake, if there was none, and it isn't OK; then each call stands where it stood.
func TestFail(t *testing.T) {
	all := []api.Errno{16, 99, -1, math.MaxInt, math.MinInt}
	for e := api.ErrArg; e <= api.ErrPrice; e++ {
		all = append(all, e)
	}
	for _, e := range all {
		r := octet.Read([]byte("\x01\x02\x01a"))
		r.Fail(api.OK)
		stands(t, "Fail with OK", r, 4, api.OK)
		if n := r.Count(9); n != 1 {
			t.Error("behind Fail with OK:", n)
		}
		r.Fail(e)
		stays(t, "Fail", r, 3, e)
		r.Fail(api.ErrState)
		stays(t, "Fail twice", r, 3, e)
	}
	for _, first := range []api.Errno{api.ErrEnd, api.ErrForm, api.ErrLong} {
		r := octet.Read(map[api.Errno][]byte{api.ErrEnd: {128}, api.ErrForm: {128, 0}, api.ErrLong: {2}}[first])
		left := r.Rest()
		r.Count(1)
		r.Fail(api.ErrSum)
		stays(t, "Fail behind a mistake", r, left, first)
	}
	r := octet.Read(nil)
	r.Fail(api.ErrSum)
	stays(t, "Fail of no bytes", r, 0, api.ErrSum)
}

// P5.2: bytes that are left are ErrForm, which is no mistake yet: they may still be read.
func TestBytesLeft(t *testing.T) {
	r := octet.Read([]byte{5, 6, 7})
	for n := range 3 {
		stands(t, "bytes left", r, 3-n, api.OK)
		if b := r.Byte(); b != byte(5+n) {
			t.Error(b)
		}
	}
	stands(t, "none left", r, 0, api.OK)
	if r.Byte() != 0 {
		t.Error("a byte behind the end")
	}
	stays(t, "behind the end", r, 0, api.ErrEnd)
}

// P5.3: bytes aren't kept, nor changed: what is done to them later isn't read, and what is told stays.
func TestBytesNotKept(t *testing.T) {
	whole := "\x03abc\x02hi\x7e" + zeros(7) + "\x05\x09"
	b := []byte(whole)
	r := octet.Read(b[:len(b)-1])
	first := r.Text(9)
	if string(b) != whole {
		t.Errorf("changed: %q", b)
	}
	for i := range b {
		b[i] = 255
	}
	if s := r.Text(9); first != "abc" || s != "hi" {
		t.Errorf("%q, %q", first, s)
	}
	if x := r.Wide(); x != (fixed.Wide{Hi: 63, Lo: 5}) {
		t.Error(x)
	}
	stands(t, "at the end", r, 0, api.OK)
	if string(b) != string(slices.Repeat([]byte{255}, len(whole))) {
		t.Errorf("changed: %q", b)
	}
	other := octet.Read([]byte(whole))
	again := octet.Read([]byte(whole))
	other.Text(9)
	other.Fail(api.ErrSum)
	stands(t, "another reader", again, len(whole), api.OK)
}

// P5.2: a reader of no bytes, nil or empty, and one that Read didn't make.
func TestNoBytes(t *testing.T) {
	for _, x := range samples() {
		for _, r := range []*octet.Reader{octet.Read(nil), octet.Read([]byte{}), {}} {
			stands(t, "no bytes", r, 0, api.OK)
			if !x.none(r) {
				t.Errorf("%s was read of no bytes", x.name)
			}
			stays(t, x.name, r, 0, api.ErrEnd)
		}
	}
}

// P5.1, P5.2: many bytes are written and read one by one, and as one text.
func TestMany(t *testing.T) {
	w := &octet.Writer{}
	for i := range api.MaxBytes {
		w.Byte(byte(i % 251))
	}
	r := octet.Read([]byte(done(t, w)))
	for i := range api.MaxBytes {
		if b := r.Byte(); b != byte(i%251) {
			t.Fatal(i, b)
		}
	}
	stands(t, "one by one", r, 0, api.OK)
	s := strings.Repeat("ab", api.MaxBytes)
	r = octet.Read([]byte("\x80\x80\x80\x01" + s))
	if got := r.Text(2 * api.MaxBytes); got != s {
		t.Error(len(got))
	}
	stands(t, "as one text", r, 0, api.OK)
}

// P5.3: of a nil reader each call answers nought, Ok is true, Done is OK, and Fail does nothing.
func TestNilReader(t *testing.T) {
	var none *octet.Reader
	stays(t, "nil", none, 0, api.OK)
	for _, e := range []api.Errno{api.ErrSum, api.OK, -1} {
		none.Fail(e)
		stays(t, "nil, failed", none, 0, api.OK)
	}
	for _, limit := range []int{math.MinInt, -1, 0, 1, most} {
		if none.Count(limit) != 0 || none.Text(limit) != "" || none.Number() != 0 || none.Wide() != (fixed.Wide{}) || none.Byte() != 0 || none.Rest() != 0 {
			t.Error("something was read with", limit)
		}
		stands(t, "nil", none, 0, api.OK)
	}
}

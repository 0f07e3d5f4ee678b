package snap_test

import (
	"encoding/binary"
	"hash/crc32"
	"slices"
	"strings"
	"testing"

	"clevis/api"
	"clevis/snap"
)

const (
	most    = 10000   // records of a snapshot
	longest = 1 << 20 // bytes of its file
)

// framed is the frame of a body, made another way.
func framed(body string) string {
	b := binary.BigEndian.AppendUint32(nil, uint32(len(body)))
	b = append(b, body...)
	return string(binary.BigEndian.AppendUint32(b, crc32.ChecksumIEEE(b)))
}

// count is the bytes of a count, made another way.
func count(n uint64) string {
	return string(binary.AppendUvarint(nil, n))
}

// bodied is the body of those records, made another way.
func bodied(l ...string) string {
	var b strings.Builder
	b.WriteString(count(uint64(len(l))))
	for _, s := range l {
		b.WriteString(count(uint64(len(s))))
		b.WriteString(s)
	}
	return b.String()
}

// filed is the file of those records, made another way.
func filed(l ...string) string {
	return framed(bodied(l...))
}

// records are those bytes.
func records(l ...string) [][]byte {
	var all [][]byte
	for _, s := range l {
		all = append(all, []byte(s))
	}
	return all
}

// same tells whether l are the bytes of want.
func same(l [][]byte, want []string) bool {
	return slices.EqualFunc(l, want, func(b []byte, w string) bool { return string(b) == w })
}

// encodes holds Encode, Size and Decode of records against what they must tell.
func encodes(t *testing.T, l ...string) {
	t.Helper()
	want := filed(l...)
	for range 2 {
		b, e := snap.Encode(records(l...)...)
		if e != api.OK || string(b) != want {
			t.Errorf("Encode(%.99q): %.99q, error %d; want %.99q", l, b, e, want)
		}
		if n := snap.Size(records(l...)...); n != len(want) {
			t.Errorf("Size(%.99q): %d; want %d", l, n, len(want))
		}
		back, e := snap.Decode([]byte(want))
		if e != api.OK || !same(back, l) {
			t.Errorf("Decode(%.99q): %.99q, error %d; want %.99q", want, back, e, l)
		}
	}
}

// tooMany holds Encode and Size of records that have no room in a file against what they must tell.
func tooMany(t *testing.T, l ...[]byte) {
	t.Helper()
	for range 2 {
		if b, e := snap.Encode(l...); b != nil || e != api.ErrLong {
			t.Errorf("Encode of %d: %.99q, error %d", len(l), b, e)
		}
		if n := snap.Size(l...); n != -1 {
			t.Errorf("Size of %d: %d", len(l), n)
		}
	}
}

// refuses holds Decode of bytes that are no file's against the error.
func refuses(t *testing.T, b string, want api.Errno) {
	t.Helper()
	for range 2 {
		if l, e := snap.Decode([]byte(b)); l != nil || e != want {
			t.Errorf("Decode(%.99q): %.99q, error %d; want %d", b, l, e, want)
		}
	}
}

// P12.1: the examples: no records, of which no list and an empty one are the same, and two.
func TestEncodeExamples(t *testing.T) {
	none := "\x00\x00\x00\x01\x00"
	for _, l := range [][][]byte{nil, {}} {
		if b, e := snap.Encode(l...); e != api.OK || len(b) != 9 || string(b[:5]) != none {
			t.Errorf("%q, error %d", b, e)
		}
		if n := snap.Size(l...); n != 9 {
			t.Error(n)
		}
	}
	b, e := snap.Encode([]byte("a"), []byte("bc"))
	if e != api.OK || string(b[:10]) != "\x00\x00\x00\x06\x02\x01a\x02bc" || len(b) != 14 {
		t.Errorf("%q, error %d", b, e)
	}
	encodes(t)
	encodes(t, "a", "bc")
}

// P12.1: records of any bytes, in order; a nil one is one without bytes.
func TestEncode(t *testing.T) {
	encodes(t, "")
	encodes(t, "", "", "")
	encodes(t, "x", "", "x", "y", "")
	encodes(t, "\x00", "\xff\xfe", "\x80", "the longer one\n", filed("a", "bc"))
	b, e := snap.Encode(nil, []byte{}, nil)
	if e != api.OK || string(b) != filed("", "", "") || snap.Size(nil, []byte{}, nil) != len(b) {
		t.Errorf("%q, error %d", b, e)
	}
}

// P12.1: where a length, or how many they are, gets a byte more.
func TestEncodeWidths(t *testing.T) {
	for _, n := range []int{1, 2, 126, 127, 128, 129, 255, 256, 9999, 10000} {
		encodes(t, slices.Repeat([]string{"r"}, n)...)
		encodes(t, slices.Repeat([]string{""}, n)...)
		encodes(t, "ahead", strings.Repeat("r", n), "behind")
	}
	for _, n := range []int{16383, 16384, 16385, 1 << 17, 1<<20 - 13} {
		encodes(t, strings.Repeat("r", n))
	}
}

// P12.1: files of just MaxBytes, and of a byte more.
func TestEncodeLongest(t *testing.T) {
	for _, ahead := range [][]string{nil, {""}, {"x", "yz"}, slices.Repeat([]string{"r"}, 200), slices.Repeat([]string{strings.Repeat("s", 100)}, 9999)} {
		l := append(slices.Clone(ahead), "")
		l[len(ahead)] = strings.Repeat("x", longest-len(filed(l...))-2)
		if len(filed(l...)) != longest {
			l[len(ahead)] = l[len(ahead)][:len(l[len(ahead)])-len(filed(l...))+longest]
		}
		if len(filed(l...)) != longest {
			t.Fatalf("%d bytes", len(filed(l...)))
		}
		encodes(t, l...)
		tooMany(t, records(append(l, "")...)...)
		l[len(ahead)] += "x"
		tooMany(t, records(l...)...)
		slices.Reverse(l)
		tooMany(t, records(l...)...)
	}
}

// P12.1: one record, of which just one byte is too much, and of which nearly all are.
func TestEncodeLongRecord(t *testing.T) {
	for _, n := range []int{1<<20 - 11, 1<<20 - 8, 1<<20 - 1, 1 << 20, 1<<20 + 1, 1 << 21, 1 << 24} {
		tooMany(t, make([]byte, n))
		tooMany(t, nil, make([]byte, n), nil)
	}
	if n := snap.Size(make([]byte, 1<<20-12)); n != 1<<20 {
		t.Error(n)
	}
}

// P12.4: more than 10000 records, however short they are; ahead of how long they are.
func TestEncodeMost(t *testing.T) {
	encodes(t, slices.Repeat([]string{""}, most)...)
	for _, n := range []int{most + 1, most + 2, 16384, 1 << 17} {
		tooMany(t, make([][]byte, n)...)
		tooMany(t, slices.Repeat([][]byte{[]byte("a long record, so that all are too long")}, n)...)
	}
}

// P1, P12.1: records that are far too much together.
func TestEncodeFar(t *testing.T) {
	great := make([]byte, 1<<28)
	tooMany(t, slices.Repeat([][]byte{great}, most)...)
	tooMany(t, slices.Repeat([][]byte{great[:1<<20]}, most)...)
}

// P12.1: bytes that are no frame: all that frame.Open tells.
func TestDecodeFrame(t *testing.T) {
	for _, l := range [][]string{{}, {"a", "bc"}, {"", "some text"}} {
		whole := filed(l...)
		for at := range len(whole) {
			refuses(t, whole[:at], api.ErrEnd)
		}
		for _, behind := range []string{"\x00", "x", whole, "\x00\x00\x00\x00"} {
			refuses(t, whole+behind, api.ErrForm)
		}
		for at := 4; at < len(whole); at++ {
			for _, by := range []byte{1, 0x80, 0xff} {
				b := []byte(whole)
				b[at] ^= by
				refuses(t, string(b), api.ErrSum)
			}
		}
	}
	refuses(t, "\x00\x10\x00\x00\x00\x00\x00\x00", api.ErrLong)
	refuses(t, strings.Repeat("\xff", 100), api.ErrLong)
	refuses(t, "\xff\xff\xff\xff", api.ErrEnd)
	refuses(t, bodied("a", "bc"), api.ErrEnd)
	refuses(t, bodied("some bytes", "without a frame"), api.ErrLong)
	if _, e := snap.Decode(nil); e != api.ErrEnd {
		t.Error(e)
	}
}

// P12.1: what is wrong with the frame goes ahead of what is wrong with its body.
func TestDecodeFrameFirst(t *testing.T) {
	for _, body := range []string{"", "\x80", "\x80\x00", count(most + 1), "\x01", "\x00\x00"} {
		whole := framed(body)
		refuses(t, whole[:len(whole)-1], api.ErrEnd)
		refuses(t, whole[:len(whole)-1]+string(whole[len(whole)-1]^1), api.ErrSum)
		refuses(t, whole+"x", api.ErrForm)
	}
}

// P12.1: how many they are: not written so, too early at an end, above 10000.
func TestDecodeCount(t *testing.T) {
	eight := strings.Repeat("\xff", 8)
	for _, b := range []string{"", "\x80", "\xff", "\x80\x80", strings.Repeat("\x80", 9), "\x90\xce"} {
		refuses(t, framed(b), api.ErrEnd)
	}
	for _, b := range []string{"\x80\x00", "\x81\x00", "\x90\xce\x80\x00", eight + "\xff\x01", eight + "\x80\x01", eight + "\xff\x02", strings.Repeat("\xff", 12)} {
		refuses(t, framed(b), api.ErrForm)
		refuses(t, framed(b+"\x01a"), api.ErrForm)
	}
	for _, n := range []uint64{most + 1, most + 2, 16384, 1 << 20, 1 << 32, 1 << 62, 1<<63 - 1} {
		refuses(t, framed(count(n)), api.ErrLong)
		refuses(t, framed(count(n)+"\x80\x00"), api.ErrLong)
		refuses(t, framed(count(n)+"\x01a"), api.ErrLong)
	}
	refuses(t, filed(slices.Repeat([]string{""}, most+1)...), api.ErrLong)
	refuses(t, filed(slices.Repeat([]string{"r"}, most+5)...), api.ErrLong)
	encodes(t, slices.Repeat([]string{""}, most)...)
}

// P12.1: fewer records than they should be.
func TestDecodeFew(t *testing.T) {
	for _, n := range []uint64{1, 2, 127, 128, most - 1, most} {
		refuses(t, framed(count(n)), api.ErrEnd)
		refuses(t, framed(count(n)+strings.Repeat("\x01r", int(n)-1)), api.ErrEnd)
		refuses(t, framed(count(n)+strings.Repeat("\x01r", int(n)-1)+"\x01"), api.ErrEnd)
	}
	whole := bodied("a", "bc", strings.Repeat("d", 200))
	for at := range len(whole) {
		refuses(t, framed(whole[:at]), api.ErrEnd)
	}
}

// P12.1: texts that aren't written so, too long, or at an end too early, the first of them and others; the first mistake is told.
func TestDecodeText(t *testing.T) {
	eight := strings.Repeat("\xff", 8)
	for text, e := range map[string]api.Errno{
		"\x80\x00":                  api.ErrForm,
		"\x81\x00a":                 api.ErrForm,
		eight + "\xff\x01":          api.ErrForm,
		eight + "\xff\x02":          api.ErrForm,
		"\x01":                      api.ErrEnd,
		"\x03ab":                    api.ErrEnd,
		"\x80":                      api.ErrEnd,
		count(1<<20 - 1):            api.ErrEnd,
		count(1 << 20):              api.ErrEnd,
		count(1<<20) + "abc":        api.ErrEnd,
		count(1<<20 + 1):            api.ErrLong,
		count(1<<20+1) + "abc":      api.ErrLong,
		count(1<<63-1) + "\x80\x00": api.ErrLong,
	} {
		refuses(t, framed("\x01"+text), e)
		refuses(t, framed("\x03\x00\x01b"+text), e)
		if e != api.ErrEnd {
			refuses(t, framed("\x03"+text+"\x01b\x02cd"), e)
			refuses(t, framed("\x03"+text+"\x80\x00"+count(1<<21)), e)
			refuses(t, framed("\x02"+text+count(1<<21)), e)
		}
	}
}

// P12.1: bytes that are left behind the records.
func TestDecodeLeft(t *testing.T) {
	for _, l := range [][]string{{}, {"a", "bc"}, {"", ""}} {
		for _, left := range []string{"\x00", "x", "\x80", bodied(l...)} {
			refuses(t, framed(bodied(l...)+left), api.ErrForm)
		}
	}
	refuses(t, framed("\x00"+strings.Repeat("\x00", longest-9)), api.ErrForm)
	refuses(t, framed("\x01"+strings.Repeat("\x00", longest-9)), api.ErrForm)
}

// P12.4: nothing is shared: records and bytes that are spoiled change no answer, and no two records have bytes in common.
func TestShared(t *testing.T) {
	l := records("a", "bc", "def")
	b, _ := snap.Encode(l...)
	if n := snap.Size(l...); n != len(b) || !same(l, []string{"a", "bc", "def"}) {
		t.Errorf("%q, %d", l, n)
	}
	for _, r := range l {
		spoil(r)
	}
	if string(b) != filed("a", "bc", "def") {
		t.Errorf("%q", b)
	}
	back, _ := snap.Decode(b)
	again, _ := snap.Decode(b)
	if string(b) != filed("a", "bc", "def") {
		t.Errorf("%q", b)
	}
	spoil(b)
	for i, r := range back {
		if string(r) != []string{"a", "bc", "def"}[i] {
			t.Errorf("%q", back)
		}
		spoil(r)
	}
	if !same(again, []string{"a", "bc", "def"}) {
		t.Errorf("%q", again)
	}
	if b, e := snap.Encode(l...); e != api.OK || string(b) == filed("a", "bc", "def") {
		t.Errorf("%q, error %d", b, e)
	}
}

// spoil changes each byte of b, and what there is room for behind them.
func spoil(b []byte) {
	b = b[:cap(b)]
	for i := range b {
		b[i] ^= 0x55
	}
}

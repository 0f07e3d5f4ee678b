package frame_test

import (
	"bytes"
	"encoding/binary"
	"testing"

	"clevis/api"
	"clevis/frame"
)

// longest is how many bytes a body may have.
const longest = api.MaxBytes - 8

// numbered is what a frame of body would be, if its number were n.
func numbered(n uint32, body []byte) []byte {
	b := append(binary.BigEndian.AppendUint32(nil, n), body...)
	return binary.BigEndian.AppendUint32(b, plainSum(b))
}

// framed is what the frame of body must be.
func framed(body string) []byte {
	return numbered(uint32(len(body)), []byte(body))
}

// joined is all of l, one behind the other.
func joined(l ...[]byte) []byte {
	return bytes.Join(l, nil)
}

// nexts asks Next of b, which must stay as it is.
func nexts(t *testing.T, what string, b []byte, body string, n int, e api.Errno) {
	t.Helper()
	before := bytes.Clone(b)
	gotBody, gotN, gotE := frame.Next(b)
	if string(gotBody) != body || gotN != n || gotE != e {
		t.Errorf("%s: Next of %d bytes: %.20q %d error %d; want %.20q %d error %d", what, len(b), gotBody, gotN, gotE, body, n, e)
	}
	if !bytes.Equal(b, before) {
		t.Errorf("%s: Next changed its bytes", what)
	}
}

// opens asks Open of b, which must stay as it is.
func opens(t *testing.T, what string, b []byte, body string, e api.Errno) {
	t.Helper()
	before := bytes.Clone(b)
	gotBody, gotE := frame.Open(b)
	if string(gotBody) != body || gotE != e {
		t.Errorf("%s: Open of %d bytes: %.20q error %d; want %.20q error %d", what, len(b), gotBody, gotE, body, e)
	}
	if !bytes.Equal(b, before) {
		t.Errorf("%s: Open changed its bytes", what)
	}
}

// fails asks all that reads frames of b, at whose beginning there must be none.
func fails(t *testing.T, what string, b []byte, e api.Errno) {
	t.Helper()
	nexts(t, what, b, "", 0, e)
	opens(t, what, b, "", e)
	gives(t, what, b)
}

// bodies are some of all lengths that are edges.
func bodies() []string {
	return []string{"", "a", "\x00", "abc", "\x00\x00\x00\x00", "\xff\xff\xff\xff\xff", string(long(8)), string(long(255)), string(long(256)), string(long(65536)), string(framed("")), string(framed("abc")), string(joined(framed("a"), framed("b")))}
}

// P6.1: the constant, and the examples' frame.
func TestMakeKnown(t *testing.T) {
	if frame.Over != 8 {
		t.Errorf("Over: %d", frame.Over)
	}
	for body, want := range map[string][]byte{
		"":       {0, 0, 0, 0, 33, 68, 223, 28},
		"abc":    {0, 0, 0, 3, 'a', 'b', 'c', 69, 188, 232, 64},
		"\x00":   {0, 0, 0, 1, 0, 223, 57, 198, 92},
		"\xff~@": {0, 0, 0, 3, 255, '~', '@', 246, 33, 81, 149},
	} {
		b, e := frame.Make([]byte(body))
		if e != api.OK || !bytes.Equal(b, want) {
			t.Errorf("Make of %q: %v error %d; want %v", body, b, e, want)
		}
		if !bytes.Equal(framed(body), want) {
			t.Errorf("the test's own frame of %q: %v; want %v", body, framed(body), want)
		}
	}
}

// P6.1, P6.2: the frame of each body, and what is read of it, alone and with bytes behind it.
func TestMakeAndRead(t *testing.T) {
	for _, body := range bodies() {
		b, e := frame.Make([]byte(body))
		if e != api.OK || !bytes.Equal(b, framed(body)) {
			t.Errorf("Make of %d bytes: %.20v error %d", len(body), b, e)
		}
		if len(b) != len(body)+frame.Over {
			t.Errorf("a frame of %d bytes has %d", len(body), len(b))
		}
		nexts(t, "a frame", b, body, len(b), api.OK)
		opens(t, "a frame", b, body, api.OK)
		for _, behind := range []string{"\x00", "\xff", "1234567", "12345678", string(framed("")), string(b), string(b[:len(b)-1])} {
			more := append(bytes.Clone(b), behind...)
			nexts(t, "with bytes behind", more, body, len(b), api.OK)
			opens(t, "with bytes behind", more, "", api.ErrForm)
		}
	}
}

// P6.1, P6.2: the longest body there may be, and one more byte, and more.
func TestMakeLongest(t *testing.T) {
	body := long(longest)
	b, e := frame.Make(body)
	if e != api.OK || len(b) != api.MaxBytes || !bytes.Equal(b, framed(string(body))) {
		t.Fatalf("Make of the longest body: %d bytes, error %d", len(b), e)
	}
	nexts(t, "the longest", b, string(body), api.MaxBytes, api.OK)
	opens(t, "the longest", b, string(body), api.OK)
	nexts(t, "the longest, a byte behind", append(bytes.Clone(b), 0), string(body), api.MaxBytes, api.OK)
	opens(t, "the longest, a byte behind", append(bytes.Clone(b), 0), "", api.ErrForm)
	fails(t, "the longest, a byte missing", b[:api.MaxBytes-1], api.ErrEnd)
	for _, n := range []int{longest + 1, longest + 2, api.MaxBytes - 1, api.MaxBytes, api.MaxBytes + 1, 3 * api.MaxBytes} {
		if b, e := frame.Make(make([]byte, n)); e != api.ErrLong || len(b) != 0 {
			t.Errorf("Make of %d bytes: %d bytes, error %d", n, len(b), e)
		}
	}
}

// P6.2: fewer bytes than a frame has, at any place that its bytes are cut off.
func TestNextEnds(t *testing.T) {
	fails(t, "no bytes", nil, api.ErrEnd)
	fails(t, "no bytes", []byte{}, api.ErrEnd)
	fails(t, "7 noughts", make([]byte, 7), api.ErrEnd)
	for _, body := range bodies() {
		b := framed(body)
		for n := range len(b) {
			if n < 20 || n > len(b)-10 {
				fails(t, "cut off", b[:n], api.ErrEnd)
			}
		}
	}
	// That the bytes end goes ahead of their check sum.
	bad := framed("abc")
	bad[5] ^= 1
	fails(t, "cut off and bent", bad[:10], api.ErrEnd)
	fails(t, "the longest, no body", numbered(longest, nil), api.ErrEnd)
	fails(t, "one too few", numbered(2, []byte("a")), api.ErrEnd)
}

// P6.2: a number that is too great for Make is told ahead of missing bytes and of the check sum; of fewer than 8 bytes it is ErrEnd.
func TestNextLong(t *testing.T) {
	for _, n := range []uint32{longest + 1, longest + 2, api.MaxBytes, api.MaxBytes + 1, 1 << 21, 1 << 24, 1<<31 - 1, 1 << 31, 1<<31 + 3, 3 << 30, 1<<32 - longest, 1<<32 - 9, 1<<32 - 8, 1<<32 - 4, 1<<32 - 1} {
		for _, body := range []string{"", "abc", string(long(99))} {
			b := numbered(n, []byte(body))
			fails(t, "a number too great", b, api.ErrLong)
			b[len(b)-1] ^= 1
			fails(t, "a number too great, another check sum", b, api.ErrLong)
		}
		for size := range 8 {
			fails(t, "a number too great, few bytes", numbered(n, nil)[:size], api.ErrEnd)
		}
	}
	// All its bytes are there, and the check sum is theirs.
	fails(t, "one byte too long", numbered(longest+1, long(longest+1)), api.ErrLong)
	fails(t, "much too long", numbered(2*api.MaxBytes, long(2*api.MaxBytes)), api.ErrLong)
	// The greatest number that may be, with bytes that may not.
	b := numbered(longest, long(longest))
	b[len(b)-1] ^= 1
	fails(t, "the longest, another check sum", b, api.ErrSum)
}

// P6.2: another check sum, also of a frame with bytes behind it; the number belongs to what it is made of.
func TestNextSum(t *testing.T) {
	fails(t, "8 noughts", make([]byte, 8), api.ErrSum)
	for _, body := range bodies() {
		for _, behind := range []string{"", "\x00", string(framed("a"))} {
			for bit := range 32 {
				b := append(framed(body), behind...)
				b[4+len(body)+bit/8] ^= 1 << (bit % 8)
				fails(t, "another check sum", b, api.ErrSum)
			}
		}
		b := framed(body)
		at := 4 + len(body)
		low := append(bytes.Clone(b[:at]), b[at+3], b[at+2], b[at+1], b[at])
		fails(t, "the check sum's lowest byte first", low, api.ErrSum)
		if len(body) > 0 {
			alone := binary.BigEndian.AppendUint32(bytes.Clone(b[:at]), plainSum([]byte(body)))
			fails(t, "the check sum of the body alone", alone, api.ErrSum)
		}
	}
	fails(t, "fewer than there are", numbered(2, []byte("abc")), api.ErrSum)
}

// P6.3, P6.2: a frame that is turned to a shorter one with bytes behind it is one for Next, and none for Open.
func TestNextWithin(t *testing.T) {
	inner := framed("ab")
	outer := framed(string(inner[4:]))
	bent := frame.Bend(outer, 3, 6^2)
	nexts(t, "the outer one", outer, string(inner[4:]), 14, api.OK)
	nexts(t, "the inner one", bent, "ab", 10, api.OK)
	opens(t, "the inner one", bent, "", api.ErrForm)
}

// P6.4: a frame of which one byte is turned, in any bits, is none.
func TestTurned(t *testing.T) {
	for _, body := range []string{"", "a", "\x00\x00", "abc", "\xff\xff\xff\xff", string(long(40))} {
		b := framed(body)
		for at := range b {
			for by := 1; by < 256; by++ {
				bent := frame.Bend(b, at, byte(by))
				want := api.ErrSum
				if n := int(binary.BigEndian.Uint32(bent)); n > longest {
					want = api.ErrLong
				} else if n > len(body) {
					want = api.ErrEnd
				}
				fails(t, "turned", bent, want)
				if mended := frame.Bend(bent, at, byte(by)); !bytes.Equal(mended, b) {
					t.Fatalf("turned twice: %v; want %v", mended, b)
				}
			}
		}
	}
}

// P6.4: a frame and its body share no bytes.
func TestMakeNew(t *testing.T) {
	for _, text := range bodies() {
		room := append(make([]byte, 0, len(text)+20), text...)
		b, _ := frame.Make(room)
		if string(room) != text || !bytes.Equal(room[len(text):cap(room)], make([]byte, cap(room)-len(text))) {
			t.Errorf("Make changed %q: %q", text, room[:cap(room)])
		}
		clear(room[:cap(room)])
		if !bytes.Equal(b, framed(text)) {
			t.Errorf("a change of a body changed its frame: %v", b)
		}
		again, _ := frame.Make([]byte(text))
		body := []byte(text)
		other, _ := frame.Make(body)
		for i := range other {
			other[i]++
		}
		_ = append(other, 1, 2, 3)
		if string(body) != text || !bytes.Equal(again, framed(text)) {
			t.Errorf("a change of a frame changed %v or %v", body, again)
		}
	}
}

// P6.4: what is read of bytes shares none with them, and nothing can be put behind it so that other bytes change.
func TestReadNew(t *testing.T) {
	for _, text := range bodies() {
		for _, behind := range []string{"", "xyz"} {
			for _, read := range []func([]byte) []byte{
				func(b []byte) []byte { body, _, _ := frame.Next(b); return body },
				func(b []byte) []byte { body, _ := frame.Open(b[:len(text)+8]); return body },
			} {
				b := append(framed(text), behind...)
				before := bytes.Clone(b)
				body, other := read(b), read(b)
				_ = append(body, 1, 2, 3, 4, 5, 6, 7, 8, 9)
				for i := range body {
					body[i]++
				}
				if !bytes.Equal(b, before) || string(other) != text {
					t.Errorf("a change of a body changed %.20q or %.20q", b, other)
				}
				clear(b)
				if string(other) != text {
					t.Errorf("a change of the bytes changed what was read: %.20q", other)
				}
			}
		}
	}
}

// P1, P6.1, P6.2: nil in place of bytes.
func TestNil(t *testing.T) {
	if b, e := frame.Make(nil); e != api.OK || !bytes.Equal(b, []byte{0, 0, 0, 0, 33, 68, 223, 28}) {
		t.Errorf("Make of nil: %v error %d", b, e)
	}
	if s := frame.Sum(nil); s != 0 {
		t.Errorf("Sum of nil: %#x", s)
	}
	if body, n, e := frame.Next(nil); len(body) != 0 || n != 0 || e != api.ErrEnd {
		t.Errorf("Next of nil: %v %d error %d", body, n, e)
	}
	if body, e := frame.Open(nil); len(body) != 0 || e != api.ErrEnd {
		t.Errorf("Open of nil: %v error %d", body, e)
	}
	for at, body := range frame.All(nil) {
		t.Errorf("All of nil gave %d %v", at, body)
	}
	if n := frame.Whole(nil); n != 0 {
		t.Errorf("Whole of nil: %d", n)
	}
	for _, at := range []int{-1, 0, 1} {
		if b := frame.Bend(nil, at, 1); len(b) != 0 {
			t.Errorf("Bend of nil: %v", b)
		}
	}
}

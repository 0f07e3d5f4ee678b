package frame_test

import (
	"bytes"
	"hash/crc32"
	"slices"
	"testing"

	"clevis/frame"
)

// plainSum is the check sum as the chapter's words tell it, bit by bit.
func plainSum(b []byte) uint32 {
	register := uint32(0xffffffff)
	for _, c := range b {
		for bit := range 8 {
			same := register&1 == uint32(c>>bit)&1
			register >>= 1
			if !same {
				register ^= 0xEDB88320
			}
		}
	}
	return register ^ 0xffffffff
}

// long is so many bytes of all kinds.
func long(n int) []byte {
	b := make([]byte, n)
	for i := range b {
		b[i] = byte(i*i*7 + i>>5 + 3)
	}
	return b
}

// P6.1: sums that are known.
func TestSumKnown(t *testing.T) {
	for text, want := range map[string]uint32{
		"":                 0,
		"a":                0xE8B7BE43,
		"abc":              0x352441C2,
		"123456789":        0xCBF43926,
		"\x00":             0xD202EF8D,
		"\xff":             0xFF000000,
		"\x00\x00\x00\x00": 0x2144DF1C,
		"\xff\xff\xff\xff": 0xFFFFFFFF,
		"The quick brown fox jumps over the lazy dog": 0x414FA339,
	} {
		if s := frame.Sum([]byte(text)); s != want {
			t.Errorf("Sum of %q: %#x; want %#x", text, s, want)
		}
		if s := plainSum([]byte(text)); s != want {
			t.Errorf("the plain sum of %q: %#x; want %#x", text, s, want)
		}
	}
}

// P6.1: each single byte, each two, and longer ones, against the words and against the library.
func TestSumPlain(t *testing.T) {
	l := [][]byte{}
	for a := range 256 {
		l = append(l, []byte{byte(a)})
		for b := range 256 {
			l = append(l, []byte{byte(a), byte(b)})
		}
	}
	for n := range 300 {
		l = append(l, long(n), make([]byte, n), bytes.Repeat([]byte{255}, n))
	}
	l = append(l, long(1<<20), long(1<<20+1))
	for _, b := range l {
		s := frame.Sum(b)
		if want := plainSum(b); s != want {
			t.Fatalf("Sum of %d bytes, %.9q: %#x; want %#x", len(b), b, s, want)
		}
		if want := crc32.ChecksumIEEE(b); s != want {
			t.Fatalf("Sum of %d bytes, %.9q: %#x; the library's: %#x", len(b), b, s, want)
		}
	}
}

// P6.1: no part, and parts without bytes, have the sum of no bytes.
func TestSumNothing(t *testing.T) {
	for _, parts := range [][][]byte{nil, {}, {nil}, {{}}, {nil, nil, {}}, {{}, nil, {}, nil}} {
		if s := frame.Sum(parts...); s != 0 {
			t.Errorf("Sum of %v: %#x", parts, s)
		}
	}
	if s := frame.Sum(); s != 0 {
		t.Errorf("Sum of no part: %#x", s)
	}
}

// P6.1: the same bytes as one part and as many, cut anywhere, with parts without bytes between.
func TestSumParts(t *testing.T) {
	b := []byte("123456789")
	for i := range len(b) + 1 {
		for j := i; j <= len(b); j++ {
			for _, parts := range [][][]byte{
				{b[:i], b[i:j], b[j:]},
				{nil, b[:i], {}, b[i:j], nil, nil, b[j:], {}},
			} {
				if s := frame.Sum(parts...); s != 0xCBF43926 {
					t.Errorf("Sum of %q: %#x", parts, s)
				}
			}
		}
	}
	singles := [][]byte{}
	for _, c := range long(1000) {
		singles = append(singles, []byte{c})
	}
	if s, want := frame.Sum(singles...), plainSum(long(1000)); s != want {
		t.Errorf("Sum of single bytes: %#x; want %#x", s, want)
	}
}

// P6.1: the parts' order counts; one part may be there twice.
func TestSumOrder(t *testing.T) {
	one, two := []byte("one"), []byte("two")
	for text, got := range map[string]uint32{
		"onetwo":    frame.Sum(one, two),
		"twoone":    frame.Sum(two, one),
		"oneone":    frame.Sum(one, one),
		"onetwoone": frame.Sum(one, two, one),
	} {
		if want := plainSum([]byte(text)); got != want {
			t.Errorf("Sum of %q in parts: %#x; want %#x", text, got, want)
		}
	}
}

// P6.4, P2: parts aren't changed, and asked again the answer is the same.
func TestSumChangesNothing(t *testing.T) {
	parts := [][]byte{long(5), nil, long(70), {}, {9}}
	before := [][]byte{}
	for _, part := range parts {
		before = append(before, slices.Clone(part))
	}
	first := frame.Sum(parts...)
	for i, part := range parts {
		if !bytes.Equal(part, before[i]) {
			t.Errorf("part %d was changed: %v", i, part)
		}
	}
	if again := frame.Sum(parts...); again != first {
		t.Errorf("Sum: %#x, then %#x", first, again)
	}
}

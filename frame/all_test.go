package frame_test

import (
	"bytes"
	"fmt"
	"math"
	"slices"
	"testing"

	"clevis/frame"
)

// placed is a frame's place and its body.
type placed struct {
	at   int
	body string
}

// gathered is all that is given.
func gathered(all func(func(int, []byte) bool)) []placed {
	l := []placed{}
	for at, body := range all {
		l = append(l, placed{at, string(body)})
	}
	return l
}

// places are those of frames of these bodies, one behind the other, and behind the last.
func places(bodies []string) ([]placed, int) {
	l, at := []placed{}, 0
	for _, body := range bodies {
		l = append(l, placed{at, body})
		at += len(body) + 8
	}
	return l, at
}

// gives asks All and Whole of b, at whose beginning just the frames of these bodies must stand; b must stay as it is.
func gives(t *testing.T, what string, b []byte, bodies ...string) {
	t.Helper()
	before := bytes.Clone(b)
	want, whole := places(bodies)
	if got := gathered(frame.All(b)); !slices.Equal(got, want) {
		t.Errorf("%s: All gave %.200s; want %.200s", what, fmt.Sprintf("%#v", got), fmt.Sprintf("%#v", want))
	}
	if n := frame.Whole(b); n != whole {
		t.Errorf("%s: Whole: %d; want %d", what, n, whole)
	}
	if !bytes.Equal(b, before) {
		t.Errorf("%s: All or Whole changed its bytes", what)
	}
}

// row is the frames of these bodies, one behind the other.
func row(bodies ...string) []byte {
	b := []byte{}
	for _, body := range bodies {
		b = append(b, framed(body)...)
	}
	return b
}

// P6.3: no bytes, one frame, many.
func TestAll(t *testing.T) {
	gives(t, "no bytes", nil)
	gives(t, "no bytes", []byte{})
	for _, body := range bodies() {
		gives(t, "one", framed(body), body)
		gives(t, "twice the same", row(body, body), body, body)
	}
	gives(t, "many", row(bodies()...), bodies()...)
	none := slices.Repeat([]string{""}, 2000)
	gives(t, "many of no bytes", row(none...), none...)
	// All of them may have more bytes than one may.
	great := slices.Repeat([]string{string(long(longest))}, 3)
	gives(t, "great ones", append(row(great...), 7), great...)
}

// P6.3: with a part of a frame behind them, or with what is none.
func TestAllBehind(t *testing.T) {
	b := framed("behind")
	for n := range b {
		gives(t, "a part behind", append(row("a", "", "bcd"), b[:n]...), "a", "", "bcd")
		gives(t, "a part alone", b[:n])
	}
	for _, behind := range [][]byte{make([]byte, 8), make([]byte, 99), numbered(longest+1, nil), numbered(1<<31, nil), numbered(longest, long(50)), []byte("123456789")} {
		gives(t, "bytes behind", append(row("a", "", "bcd"), behind...), "a", "", "bcd")
		gives(t, "bytes ahead", append(behind, row("a", "", "bcd")...))
	}
}

// P6.3: a frame that is bent at any byte ends all, whatever stands behind it.
func TestAllBent(t *testing.T) {
	l := []string{"first", "", "third one", "a", ""}
	b := row(l...)
	starts, _ := places(l)
	for at := range b {
		in, bit := 0, byte(1)<<(at%8)
		for in+1 < len(l) && starts[in+1].at <= at {
			in++
		}
		gives(t, "bent", frame.Bend(b, at, bit), l[:in]...)
		gives(t, "bent", frame.Bend(b, at, 255), l[:in]...)
	}
}

// P6.3: All may be left at once, in the middle and at the end, and be gone through again.
func TestAllLeft(t *testing.T) {
	l := []string{"a", "", "bcd", "e", ""}
	want, _ := places(l)
	all := frame.All(append(row(l...), 1, 2, 3))
	for n := range len(l) {
		got := []placed{}
		for at, body := range all {
			got = append(got, placed{at, string(body)})
			if len(got) > n {
				break
			}
		}
		if !slices.Equal(got, want[:n+1]) {
			t.Errorf("left behind %d: %v", n+1, got)
		}
	}
	if got := gathered(all); !slices.Equal(got, want) {
		t.Errorf("gone through again: %v", got)
	}
	third := func() placed {
		for at, body := range all {
			if len(body) == 3 {
				return placed{at, string(body)}
			}
		}
		return placed{}
	}
	if got := third(); got != want[2] {
		t.Errorf("left by return: %v", got)
	}
}

// P6.3: All may be left by a panic, and gone through within itself.
func TestAllWithin(t *testing.T) {
	all := frame.All(row("a", "", "bcd"))
	func() {
		defer func() {
			if recover() != "left" {
				t.Error("a panic was caught")
			}
		}()
		for at := range all {
			if at > 0 {
				panic("left")
			}
		}
	}()
	pairs := []placed{}
	for at := range all {
		for within, body := range all {
			pairs = append(pairs, placed{100*at + within, string(body)})
		}
	}
	want := []placed{{0, "a"}, {9, ""}, {17, "bcd"}, {900, "a"}, {909, ""}, {917, "bcd"}, {1700, "a"}, {1709, ""}, {1717, "bcd"}}
	if !slices.Equal(pairs, want) {
		t.Errorf("All within All: %v", pairs)
	}
}

// P6.4: All gives the frames of the bytes as they were when it was asked, and nothing that is changed in a body changes others.
func TestAllNew(t *testing.T) {
	l := []string{"abc", "de", "", "fgh"}
	want, _ := places(l)
	b := row(l...)
	before := bytes.Clone(b)
	all := frame.All(b)
	kept := [][]byte{}
	for at, body := range all {
		if !bytes.Equal(b, before) {
			t.Errorf("a change of a body changed the bytes, ahead of %d", at)
		}
		kept = append(kept, bytes.Clone(body))
		for i := range body {
			body[i]++
		}
		_ = append(body, 1, 2, 3, 4, 5, 6, 7, 8, 9, 10, 11, 12)
	}
	if got := gathered(all); !slices.Equal(got, want) || len(kept) != 4 || string(kept[3]) != "fgh" {
		t.Errorf("bodies that were changed changed others: %v, %q", got, kept)
	}
	clear(b)
	if got := gathered(all); !slices.Equal(got, want) {
		t.Errorf("bytes that were changed behind All changed what it gives: %v", got)
	}
	got := []placed{}
	b = row(l...)
	for at, body := range frame.All(b) {
		clear(b)
		got = append(got, placed{at, string(body)})
	}
	if !slices.Equal(got, want) {
		t.Errorf("bytes that were changed within All changed what it gives: %v", got)
	}
}

// P6.4: bodies that All gave stay as they were, whatever is changed then.
func TestAllKept(t *testing.T) {
	b := row("abc", "de", "fgh")
	kept := [][]byte{}
	all := frame.All(b)
	for range 2 {
		for _, body := range all {
			kept = append(kept, body)
		}
	}
	clear(b)
	kept[0] = append(kept[0], 1, 2, 3, 4, 5, 6, 7, 8, 9)
	clear(kept[1])
	for i, want := range []string{"abc\x01\x02\x03\x04\x05\x06\x07\x08\x09", "\x00\x00", "fgh", "abc", "de", "fgh"} {
		if string(kept[i]) != want {
			t.Errorf("body %d: %q; want %q", i, kept[i], want)
		}
	}
}

// P6.3: each byte turned in each bit; nothing is turned by 0, below 0 and behind the last.
func TestBend(t *testing.T) {
	b := framed("abc")
	for at := range b {
		for by := range 256 {
			want := bytes.Clone(b)
			want[at] = b[at] ^ byte(by)
			if got := frame.Bend(b, at, byte(by)); !bytes.Equal(got, want) {
				t.Errorf("Bend(%d, %d): %v; want %v", at, by, got, want)
			}
		}
	}
	for _, bytesOf := range [][]byte{nil, {}, {5}, b} {
		for _, at := range []int{math.MinInt, -len(bytesOf) - 1, -len(bytesOf), -2, -1, len(bytesOf), len(bytesOf) + 1, math.MaxInt} {
			if at >= 0 && at < len(bytesOf) {
				continue
			}
			for _, by := range []byte{0, 1, 255} {
				if got := frame.Bend(bytesOf, at, by); !bytes.Equal(got, bytesOf) {
					t.Errorf("Bend of %v at %d by %d: %v", bytesOf, at, by, got)
				}
			}
		}
	}
	if got := frame.Bend([]byte("a"), 0, 3); string(got) != "b" {
		t.Errorf("Bend of a: %q", got)
	}
	if !bytes.Equal(b, framed("abc")) {
		t.Errorf("Bend changed its bytes: %v", b)
	}
}

// P6.4: what Bend tells is new memory, also where nothing is turned.
func TestBendNew(t *testing.T) {
	for _, at := range []int{-1, 0, 5, 10, 11, 12} {
		for _, by := range []byte{0, 1} {
			b := append(make([]byte, 0, 40), framed("abc")...)
			bent := frame.Bend(b, at, by)
			before := bytes.Clone(bent)
			clear(b)
			if !bytes.Equal(bent, before) {
				t.Errorf("Bend(%d, %d): a change of the bytes changed what was told: %v", at, by, bent)
			}
			_ = append(bent, 1, 2, 3)
			for i := range bent {
				bent[i] = 9
			}
			if !bytes.Equal(b[:40], make([]byte, 40)) {
				t.Errorf("Bend(%d, %d): a change of what was told changed the bytes: %v", at, by, b[:40])
			}
		}
	}
}

// P6.3: a byte far behind, among great ones.
func TestBendGreat(t *testing.T) {
	b := long(3 << 20)
	bent := frame.Bend(b, 3<<20-1, 128)
	if len(bent) != len(b) || bent[3<<20-1] != b[3<<20-1]^128 || !bytes.Equal(bent[:3<<20-1], b[:3<<20-1]) {
		t.Error("Bend of many bytes")
	}
}

package frame_test

import (
	"bytes"
	"encoding/binary"
	"hash/crc32"
	"math/rand"
	"testing"

	"clevis/api"
	"clevis/frame"
)

// plainNext is what Next must tell.
func plainNext(b []byte) (string, int, api.Errno) {
	if len(b) < 8 {
		return "", 0, api.ErrEnd
	}
	n := int64(binary.BigEndian.Uint32(b))
	if n > longest {
		return "", 0, api.ErrLong
	}
	if int64(len(b)) < n+8 {
		return "", 0, api.ErrEnd
	}
	if crc32.ChecksumIEEE(b[:n+4]) != binary.BigEndian.Uint32(b[n+4:]) {
		return "", 0, api.ErrSum
	}
	return string(b[4 : n+4]), int(n + 8), api.OK
}

// holdsAgainstPlain asks all that reads frames of b.
func holdsAgainstPlain(t *testing.T, b []byte) {
	t.Helper()
	body, n, e := plainNext(b)
	nexts(t, "by chance", b, body, n, e)
	if e == api.OK && n < len(b) {
		opens(t, "by chance", b, "", api.ErrForm)
	} else {
		opens(t, "by chance", b, body, e)
	}
	l := []string{}
	for left := b; e == api.OK; {
		l = append(l, body)
		left = left[n:]
		body, n, e = plainNext(left)
	}
	gives(t, "by chance", b, l...)
}

// P6.1 to P6.4, P2: frames by chance, bent and cut off by chance; the seed is fixed, so that they are the same each time.
func TestChance(t *testing.T) {
	chance := rand.New(rand.NewSource(6))
	for range 20000 {
		b := []byte{}
		for range chance.Intn(6) {
			body := make([]byte, chance.Intn(1+chance.Intn(40)))
			chance.Read(body)
			made, e := frame.Make(body)
			if e != api.OK || !bytes.Equal(made, framed(string(body))) {
				t.Fatalf("Make of %v: %v error %d", body, made, e)
			}
			b = append(b, made...)
		}
		holdsAgainstPlain(t, b)
		if len(b) == 0 {
			continue
		}
		holdsAgainstPlain(t, frame.Bend(b, chance.Intn(len(b)), byte(1<<chance.Intn(8))))
		from := chance.Intn(len(b))
		holdsAgainstPlain(t, b[from:])
		holdsAgainstPlain(t, b[:from])
	}
}

// P1, P6.1 to P6.4: whatever the bytes are, each call ends, and tells what it must.
func FuzzBytes(f *testing.F) {
	f.Add([]byte{}, 0, byte(1))
	f.Add(framed(""), 3, byte(1))
	f.Add(row("abc", "", "d"), 12, byte(128))
	f.Add(append(framed("abc"), 0, 0, 0), -1, byte(255))
	f.Add(numbered(1<<31, []byte("abc")), 0, byte(128))
	f.Fuzz(func(t *testing.T, b []byte, at int, by byte) {
		holdsAgainstPlain(t, b)
		holdsAgainstPlain(t, frame.Bend(b, at, by))
		made, e := frame.Make(b)
		if len(b) > longest {
			if e != api.ErrLong || len(made) != 0 {
				t.Fatalf("Make of %d bytes: error %d", len(b), e)
			}
			return
		}
		if e != api.OK || !bytes.Equal(made, framed(string(b))) {
			t.Fatalf("Make of %d bytes: %.20v error %d", len(b), made, e)
		}
		holdsAgainstPlain(t, append(made, b...))
		if at >= 0 && at < len(made) && by != 0 {
			if body, e := frame.Open(frame.Bend(made, at, by)); e == api.OK || len(body) != 0 {
				t.Fatalf("a frame that is bent at %d by %d is one: %v", at, by, body)
			}
		}
	})
}

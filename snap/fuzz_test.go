package snap_test

import (
	"encoding/binary"
	"hash/crc32"
	"math/rand"
	"slices"
	"testing"

	"clevis/api"
	"clevis/snap"
)

// number reads the count at the beginning of b, looked at another way: the number, how many bytes it has, and what is wrong.
func number(b []byte, most uint64) (uint64, int, api.Errno) {
	n, size := binary.Uvarint(b)
	switch {
	case size == 0 && len(b) < 10:
		return 0, 0, api.ErrEnd
	case size <= 0, n >= 1<<63, size > 1 && b[size-1] == 0:
		return 0, 0, api.ErrForm
	case n > most:
		return 0, 0, api.ErrLong
	}
	return n, size, api.OK
}

// decoded is what Decode must tell of b, looked at another way.
func decoded(b []byte) ([]string, api.Errno) {
	if len(b) < 8 {
		return nil, api.ErrEnd
	}
	n := int(binary.BigEndian.Uint32(b))
	switch {
	case n > 1<<20-8:
		return nil, api.ErrLong
	case len(b) < n+8:
		return nil, api.ErrEnd
	case crc32.ChecksumIEEE(b[:n+4]) != binary.BigEndian.Uint32(b[n+4:]):
		return nil, api.ErrSum
	case len(b) > n+8:
		return nil, api.ErrForm
	}
	b = b[4 : n+4]
	left, at, e := number(b, most)
	l := []string{}
	for ; e == api.OK && left > 0; left-- {
		long, size, wrong := number(b[at:], 1<<20)
		at += size
		if wrong == api.OK && int(long) > len(b)-at {
			wrong = api.ErrEnd
		}
		if wrong != api.OK {
			return nil, wrong
		}
		l = append(l, string(b[at:at+int(long)]))
		at += int(long)
	}
	if e == api.OK && at < len(b) {
		e = api.ErrForm
	}
	if e != api.OK {
		return nil, e
	}
	return l, api.OK
}

// decodes holds Decode of any bytes, and Load of a file of them, against what they must tell.
func decodes(t *testing.T, b []byte) api.Errno {
	t.Helper()
	want, wrong := decoded(b)
	l, e := snap.Decode(b)
	if e != wrong || !same(l, want) || e != api.OK && l != nil {
		t.Fatalf("Decode(%q): %q, error %d; want %q, %d", b, l, e, want, wrong)
	}
	s := made(t, 1<<20, files{"snap": string(b)})
	if e != api.OK {
		loadsNone(t, "any bytes", s)
		return e
	}
	loads(t, "any bytes", s, want...)
	// There is one way alone to write them.
	if back, e := snap.Encode(l...); e != api.OK || string(back) != string(b) || snap.Size(l...) != len(b) {
		t.Fatalf("Encode(%q): %q, error %d; want %q", l, back, e, b)
	}
	return e
}

// P12.1, P12.2, P2: records and bytes by chance; the seed is fixed, so that they are the same each time.
func TestChance(t *testing.T) {
	chance := rand.New(rand.NewSource(12))
	met := map[api.Errno]int{}
	for range 20000 {
		l := make([]string, chance.Intn(6))
		for i := range l {
			b := make([]byte, chance.Intn(8)*chance.Intn(40))
			chance.Read(b)
			l[i] = string(b)
		}
		encodes(t, l...)
		body := []byte(bodied(l...))
		for chance.Intn(2) > 0 {
			body[chance.Intn(len(body))] ^= 1 << chance.Intn(8)
		}
		body = body[:len(body)-chance.Intn(3)*chance.Intn(2)%len(body)]
		b := []byte(framed(string(body)))
		if chance.Intn(4) == 0 {
			b[chance.Intn(len(b))] ^= byte(chance.Intn(256))
		}
		met[decodes(t, b)]++
		if t.Failed() {
			t.Fatalf("records %q, bytes %q", l, b)
		}
	}
	for _, e := range []api.Errno{api.OK, api.ErrLong, api.ErrForm, api.ErrSum, api.ErrEnd} {
		if met[e] < 100 {
			t.Error(met)
		}
	}
}

// P12.3: lives by chance: snapshots that are saved with few units or little room; the last whole one is there.
func TestChanceLives(t *testing.T) {
	chance := rand.New(rand.NewSource(123))
	met := map[api.Errno]int{}
	for range 500 {
		s := made(t, 60, nil)
		var now []string
		for range 20 {
			s.Arm(chance.Intn(80))
			l := []string{"some bytes of a record"[:chance.Intn(22)], "more"[:chance.Intn(5)]}[:chance.Intn(3)]
			e := snap.Save(s, records(l...)...)
			if e == api.OK {
				now = slices.Clone(l)
				if now == nil {
					now = []string{}
				}
			}
			met[e]++
			if now == nil {
				loadsNone(t, "a life", s)
			} else {
				loads(t, "a life", s, now...)
			}
			s.Revive()
		}
	}
	for _, e := range []api.Errno{api.OK, api.ErrFull, api.ErrDown} {
		if met[e] < 100 || len(met) != 3 {
			t.Error(met)
		}
	}
}

// P1, P12.1: whatever the bytes are, Decode ends, and tells what it must.
func FuzzFiles(f *testing.F) {
	f.Add([]byte{})
	f.Add([]byte(filed()))
	f.Add([]byte(filed("a", "bc")))
	f.Add([]byte(framed("\x80\x00")))
	f.Fuzz(func(t *testing.T, b []byte) {
		decodes(t, b[:min(len(b), 1<<16)])
	})
}

// P1, P12.1: bodies of any bytes, in a frame that is right.
func FuzzBodies(f *testing.F) {
	f.Add([]byte{})
	f.Add([]byte(bodied("a", "bc", "")))
	f.Add([]byte(count(most) + "\x00\x00"))
	f.Add([]byte("\x02" + count(1<<20+1) + "\x00"))
	f.Fuzz(func(t *testing.T, b []byte) {
		decodes(t, []byte(framed(string(b[:min(len(b), 1<<16)]))))
	})
}
